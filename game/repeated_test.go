package game

import "testing"

func TestWhoRepeats(t *testing.T) { // P14.3: checks by both sides all the time, too, of which no game is known, so that what decides is asked by itself
	rows := []struct {
		name         string
		first, now   [2]int
		state, loser int
	}{
		{"no check", [2]int{0, 0}, [2]int{6, 6}, Draw, nobody},
		{"both, each time", [2]int{0, 0}, [2]int{0, 0}, Draw, nobody},
		{"both, each time since then", [2]int{3, 1}, [2]int{3, 1}, Draw, nobody},
		{"Black, each time", [2]int{0, 0}, [2]int{0, 6}, Perpetual, 0},
		{"Black, each time since then", [2]int{2, 3}, [2]int{2, 4}, Perpetual, 0},
		{"White, each time", [2]int{0, 0}, [2]int{6, 0}, Perpetual, 1},
		{"White, each time since then", [2]int{2, 3}, [2]int{3, 3}, Perpetual, 1},
		{"both, but once", [2]int{4, 4}, [2]int{5, 5}, Draw, nobody},
	}
	for _, r := range rows {
		g := &Game{quiet: r.now}
		if state, loser := g.repeated(visit{quiet: r.first}); state != r.state || loser != r.loser {
			t.Errorf("%s: %d %d", r.name, state, loser)
		}
	}
}
