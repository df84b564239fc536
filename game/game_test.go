package game_test

import (
	"math"
	"slices"
	"testing"

	"kakugyo/api"
	"kakugyo/attack"
	"kakugyo/board"
	"kakugyo/game"
	"kakugyo/legal"
)

const white = 16

// dice are numbers without a pattern, the same ones in each run.
type dice uint64

func (d *dice) below(n int) int {
	*d = *d*6364136223846793005 + 1442695040888963407
	return int(uint64(*d) >> 33 % uint64(n))
}

// after is the position behind a legal move.
func after(p api.Position, m api.Move) api.Position {
	side := p.Side
	p.Side = 1 - side
	if m.Drop != 0 {
		p.Hands[side][m.Drop]--
		p.Board[m.To] = api.Piece(m.Drop) + api.Piece(white*side)
		return p
	}
	if x := p.Board[m.To]; x != 0 {
		p.Hands[side][x%8]++
	}
	p.Board[m.To], p.Board[m.From] = p.Board[m.From], 0
	if m.Promote {
		p.Board[m.To] += api.Promoted
	}
	return p
}

// checked is whether the side to move is in check.
func checked(p api.Position) bool { return attack.InCheck(board.New(p), int(p.Side)) }

func moves(p api.Position) []api.Move { return legal.All(board.New(p)) }

// gave is P14.4 told of all positions behind moves: which sides gave check with each move of theirs.
func gave(behind []api.Position) [2]bool {
	var made, checks [2]int
	for _, p := range behind {
		made[1-p.Side]++
		if checked(p) {
			checks[1-p.Side]++
		}
	}
	return [2]bool{made[0] > 0 && checks[0] == made[0], made[1] > 0 && checks[1] == made[1]}
}

// judged is P14.3 told by all positions from the beginning on.
func judged(past []api.Position) (int, int) {
	now := past[len(past)-1]
	if len(moves(now)) == 0 {
		return 1, int(now.Side)
	}
	var times []int
	for i, p := range past {
		if p == now {
			times = append(times, i)
		}
	}
	if len(times) == 4 {
		switch gave(past[times[0]+1:]) {
		case [2]bool{true, false}:
			return 3, 0
		case [2]bool{false, true}:
			return 3, 1
		}
		return 2, -1
	}
	if len(past)-1 == 4096 {
		return 5, -1
	}
	return 0, -1
}

// put is a position with pieces on squares.
func put(pieces map[int]api.Piece) api.Position {
	var p api.Position
	for q, x := range pieces {
		p.Board[q] = x
	}
	return p
}

// turned is a position seen from the other side.
func turned(p api.Position) api.Position {
	other := api.Position{Hands: [2][8]int8{p.Hands[1], p.Hands[0]}, Side: 1 - p.Side}
	for q, x := range p.Board {
		switch {
		case x > white:
			other.Board[80-q] = x - white
		case x > 0:
			other.Board[80-q] = x + white
		}
	}
	return other
}

// across are moves seen from the other side.
func across(list []api.Move) []api.Move {
	var other []api.Move
	for _, m := range list {
		m.To = 80 - m.To
		if m.Drop == 0 {
			m.From = 80 - m.From
		}
		other = append(other, m)
	}
	return other
}

// play is a game with moves that are all made, of which none but the last one ends it.
func play(t *testing.T, name string, p api.Position, list []api.Move) *game.Game {
	t.Helper()
	g, e := game.New(p)
	if e != api.OK {
		t.Fatalf("%s: New: %v", name, e)
	}
	for n, m := range list {
		if state, loser := g.State(); state != game.Ongoing || loser != -1 {
			t.Fatalf("%s: ahead of move %d: %d %d", name, n, state, loser)
		}
		if e := g.Move(m); e != api.OK {
			t.Fatalf("%s: move %d, %v: %v", name, n, m, e)
		}
	}
	return g
}

// stands is a check of a game, and that it takes nothing more, if it is over.
func stands(t *testing.T, name string, g *game.Game, state, loser int) {
	t.Helper()
	if s, l := g.State(); s != state || l != loser {
		t.Errorf("%s: %d %d, want %d %d", name, s, l, state, loser)
	}
	if state == game.Ongoing {
		return
	}
	start, now, made := g.Start(), g.Now(), g.Moves()
	for _, m := range append(moves(now), api.Move{}, api.Move{From: -1, To: 99}) {
		if e := g.Move(m); e != api.ErrOver {
			t.Errorf("%s: a move behind the end: %v", name, e)
		}
	}
	if e := g.Resign(); e != api.ErrOver {
		t.Errorf("%s: Resign behind the end: %v", name, e)
	}
	if s, l := g.State(); s != state || l != loser || g.Start() != start || g.Now() != now || !slices.Equal(g.Moves(), made) {
		t.Errorf("%s: something has changed behind the end", name)
	}
}

// steps are moves on the board, told by two squares each.
func steps(squares ...int) []api.Move {
	var list []api.Move
	for i := 0; i < len(squares); i += 2 {
		list = append(list, api.Move{From: squares[i], To: squares[i+1]})
	}
	return list
}

// times is a list so many times.
func times(n int, list []api.Move) []api.Move { return slices.Repeat(list, n) }

// K and k are the kings, and so on: Black's are great letters.
const (
	K, k = api.Piece(api.King), api.Piece(api.King + white)
	G, g = api.Piece(api.Gold), api.Piece(api.Gold + white)
	R, r = api.Piece(api.Rook), api.Piece(api.Rook + white)
	S, w = api.Piece(api.Silver), api.Piece(api.Pawn + white)
	P    = api.Piece(api.Pawn)
)

func TestNumbers(t *testing.T) { // P14.3: the numbers of states
	if got := [6]int{game.Ongoing, game.Mated, game.Draw, game.Perpetual, game.Resigned, game.TooLong}; got != [6]int{0, 1, 2, 3, 4, 5} || game.MaxMoves != 4096 {
		t.Errorf("%v %d", got, game.MaxMoves)
	}
}

// holding is a position with some of a kind in Black's hand.
func holding(p api.Position, kind, n int) api.Position {
	p.Hands[0][kind] = int8(n)
	return p
}

// toMove is a position on White's turn.
func toMove(p api.Position) api.Position {
	p.Side = api.White
	return p
}

// rook is Black's rook beside White's king, which it checks to and fro; kings are nothing else.
var (
	rook  = put(map[int]api.Piece{0: k, 80: K, 13: R})
	kings = put(map[int]api.Piece{0: k, 80: K})
)

var (
	checks  = steps(13, 4, 0, 9, 4, 13, 9, 0)                                                                       // a check with each of Black's moves
	detour  = steps(13, 22, 0, 1, 22, 4, 1, 9, 4, 13, 9, 0)                                                         // with each but one
	toFro   = steps(16, 25, 64, 55, 25, 16, 55, 64)                                                                 // from the Start
	round   = steps(80, 79, 0, 1, 79, 71, 1, 0, 71, 80)                                                             // the kings stand there again, on the other side's turn
	back    = steps(0, 1, 80, 79, 1, 9, 79, 80, 9, 0)                                                               // and once more
	dropped = append([]api.Move{{To: 1, Drop: api.Pawn}}, steps(0, 1, 80, 79, 1, 0, 79, 71, 0, 9, 71, 80, 9, 0)...) // again, but White's king has taken a pawn
	fro     = steps(80, 79, 0, 1, 79, 80, 1, 0)                                                                     // again, and nothing else
)

var rows = []struct {
	name         string
	p            api.Position
	moves        []api.Move
	state, loser int
}{
	{"the beginning", board.Start(), nil, game.Ongoing, -1},
	{"one move", board.Start(), steps(60, 59), game.Ongoing, -1},
	{"in check at the beginning", toMove(put(map[int]api.Piece{0: k, 80: K, 4: R})), nil, game.Ongoing, -1},
	{"a mate by a drop", holding(put(map[int]api.Piece{36: k, 38: P, 80: K}), api.Gold, 1), []api.Move{{To: 37, Drop: api.Gold}}, game.Mated, 1},
	{"a mate at the beginning", put(map[int]api.Piece{44: K, 0: k, 43: g, 42: w}), nil, game.Mated, 0},
	{"no legal move at the beginning, and no check", put(map[int]api.Piece{0: K, 80: k, 19: r, 17: r}), nil, game.Mated, 0},
	{"no legal move behind a move, and no check", toMove(put(map[int]api.Piece{0: K, 80: k, 20: r, 17: r})), steps(20, 19), game.Mated, 0},
	{"a drop is left", holding(toMove(put(map[int]api.Piece{0: K, 80: k, 20: r, 17: r})), api.Gold, 1), steps(20, 19), game.Ongoing, -1},
	{"a check", rook, checks[:1], game.Ongoing, -1},
	{"three times", board.Start(), times(2, toFro), game.Ongoing, -1},
	{"three times, and then another way", board.Start(), append(times(2, toFro), steps(60, 59)...), game.Ongoing, -1},
	{"three times, and not quite the fourth", board.Start(), times(3, toFro)[:11], game.Ongoing, -1},
	{"four times", board.Start(), times(3, toFro), game.Draw, -1},
	{"four times, on White's turn", board.Start(), append(steps(60, 59), times(3, steps(64, 55, 16, 25, 55, 64, 25, 16))...), game.Draw, -1},
	{"four times, not one behind the other", board.Start(), slices.Concat(toFro, steps(35, 34, 45, 46, 34, 35, 46, 45), steps(16, 25, 64, 55, 25, 34, 55, 46, 34, 16, 46, 64)), game.Draw, -1},
	{"the board twice, with either side to move", kings, round, game.Ongoing, -1},
	{"the board four times, with each side to move twice", kings, slices.Concat(round, back, round), game.Ongoing, -1},
	{"the board six times, with each side to move three times", kings, slices.Concat(round, back, round, back, round), game.Ongoing, -1},
	{"the board seven times, with one side to move four times", kings, times(3, slices.Concat(round, back)), game.Draw, -1},
	{"the board four times, with other hands each time", holding(kings, api.Pawn, 3), times(3, dropped), game.Ongoing, -1},
	{"the board five times, with the same hands three times", holding(kings, api.Pawn, 3), slices.Concat(fro, dropped, fro, fro), game.Ongoing, -1},
	{"the board six times, with the same hands four times", holding(kings, api.Pawn, 3), slices.Concat(fro, dropped, fro, fro, fro), game.Draw, -1},
	{"check each time, three times", rook, times(2, checks), game.Ongoing, -1},
	{"check each time, four times", rook, times(3, checks), game.Perpetual, 0},
	{"check each time, from White's turn", toMove(put(map[int]api.Piece{0: k, 80: K, 4: R})), times(3, steps(0, 9, 4, 13, 9, 0, 13, 4)), game.Perpetual, 0},
	{"check but once, at first", rook, slices.Concat(detour, checks, checks), game.Draw, -1},
	{"check but once, in the middle", rook, slices.Concat(checks, detour, checks), game.Draw, -1},
	{"check but once, at last", rook, slices.Concat(checks, checks, detour), game.Draw, -1},
	{"check but once, each time", rook, times(3, detour), game.Draw, -1},
	{"no check ahead of the first time", put(map[int]api.Piece{1: k, 80: K, 22: R}), append(steps(22, 13, 1, 0), times(3, checks)...), game.Perpetual, 0},
	{"White's king goes by itself, and gives no check", rook, times(3, checks)[:11], game.Ongoing, -1},
}

func TestRows(t *testing.T) { // P14.2, P14.3, P14.4: written by hand, for both sides
	for _, row := range rows {
		stands(t, row.name, play(t, row.name, row.p, row.moves), row.state, row.loser)
		loser := row.loser
		if loser >= 0 {
			loser = 1 - loser
		}
		stands(t, row.name+", turned", play(t, row.name, turned(row.p), across(row.moves)), row.state, loser)
	}
}

// wander is a walk of so many moves from p on, of those that are allowed, on which positions come as seldom as they can, and no game ends; and how often they came.
func wander(t *testing.T, d *dice, p api.Position, n int, allowed func(p api.Position, m api.Move) bool) ([]api.Move, api.Position, map[api.Position]int) {
	t.Helper()
	var list []api.Move
	seen := map[api.Position]int{p: 1}
	for len(list) < n {
		var best api.Move
		least := 3
		all := moves(p)
		at := d.below(len(all))
		for _, m := range slices.Concat(all[at:], all[:at]) {
			next := after(p, m)
			if allowed(p, m) && seen[next] < least && len(moves(next)) > 0 {
				best, least = m, seen[next]
			}
		}
		if least == 3 {
			t.Fatalf("no way on behind %d moves", len(list))
		}
		p = after(p, best)
		seen[p]++
		list = append(list, best)
	}
	return list, p, seen
}

// quiet is a move on the board that takes nothing, with which no piece leaves its side's four ranks.
func quiet(p api.Position, m api.Move) bool {
	return m.Drop == 0 && !m.Promote && p.Board[m.To] == 0 && (m.To%9 > 4) == (p.Side == api.Black) && m.To%9 != 4
}

// golds are two golds of each side beside their kings, far from the others.
var golds = put(map[int]api.Piece{0: k, 80: K, 2: g, 20: g, 60: G, 78: G})

func TestTooLong(t *testing.T) { // P14.3: MaxMoves moves
	d := dice(1)
	for _, p := range []api.Position{golds, toMove(golds)} {
		list, now, _ := wander(t, &d, p, 4097, quiet)
		g := play(t, "too long", p, list[:4095])
		stands(t, "4095 moves", g, game.Ongoing, -1)
		if e := g.Move(list[4095]); e != api.OK {
			t.Errorf("move 4096: %v", e)
		}
		stands(t, "4096 moves", g, game.TooLong, -1)
		if g.Move(list[4096]) != api.ErrOver || g.Now() == now || !slices.Equal(g.Moves(), list[:4096]) {
			t.Error("move 4097 is made")
		}
		g, n, e := game.Play(p, list...)
		stands(t, "Play", g, game.TooLong, -1)
		if n != 4096 || e != api.ErrOver {
			t.Errorf("Play of 4097: %d %v", n, e)
		}
		if g, n, e = game.Play(p, list[:4096]...); n != 4096 || e != api.OK || g.Move(list[4096]) != api.ErrOver {
			t.Errorf("Play of 4096: %d %v", n, e)
		}
	}
}

func TestResignedAheadOfTheLastMove(t *testing.T) { // P14.3
	d := dice(2)
	list, _, _ := wander(t, &d, golds, 4095, quiet)
	g := play(t, "resigned", golds, list)
	if e := g.Resign(); e != api.OK {
		t.Errorf("Resign: %v", e)
	}
	stands(t, "resigned", g, game.Resigned, api.White)
}

func TestMatedByTheLastMove(t *testing.T) { // P14.3: what is named first
	d := dice(3)
	p := toMove(holding(put(map[int]api.Piece{36: k, 38: P, 80: K, 78: S, 60: G}), api.Gold, 1))
	// White's king goes beside its square and back, all the time.
	list, now, _ := wander(t, &d, p, 4095, func(p api.Position, m api.Move) bool {
		if p.Side == api.White {
			return m.From == 36 && (m.To == 27 || m.To == 45) || m.To == 36
		}
		return quiet(p, m) && m.From != 38
	})
	g := play(t, "the last move", p, list)
	if e := g.Move(api.Move{To: 37, Drop: api.Gold}); e != api.OK || now.Board[36] != k {
		t.Errorf("the mate: %v", e)
	}
	stands(t, "mated by the last move", g, game.Mated, api.White)
	g = play(t, "the last move", p, list)
	if e := g.Move(api.Move{To: 28, Drop: api.Gold}); e != api.OK {
		t.Errorf("the check: %v", e)
	}
	stands(t, "no mate", g, game.TooLong, -1)
}

// shuttle are four moves, behind which all is as it was; on the way there is no position that has come.
func shuttle(t *testing.T, p api.Position, seen map[api.Position]int) []api.Move {
	t.Helper()
	if seen[p] != 1 {
		t.Fatal("it has come more than once")
	}
	for _, a := range moves(p) {
		p1 := after(p, a)
		if !quiet(p, a) || seen[p1] > 0 {
			continue
		}
		for _, b := range moves(p1) {
			p2 := after(p1, b)
			back := steps(a.To, a.From, b.To, b.From)
			if quiet(p1, b) && seen[p2] == 0 && slices.Contains(moves(p2), back[0]) && seen[after(p2, back[0])] == 0 {
				return append([]api.Move{a, b}, back...)
			}
		}
	}
	t.Fatal("no way to and fro")
	return nil
}

func TestRepeatedByTheLastMove(t *testing.T) { // P14.3: what is named first
	d := dice(4)
	list, now, seen := wander(t, &d, golds, 4084, quiet)
	list = append(list, times(3, shuttle(t, now, seen))...)
	stands(t, "the fourth time by the last move", play(t, "repeated", golds, list), game.Draw, -1)
	// One move later there are too many.
	list, now, seen = wander(t, &d, golds, 4085, quiet)
	list = append(list, times(3, shuttle(t, now, seen))[:11]...)
	stands(t, "not quite the fourth time", play(t, "repeated", golds, list), game.TooLong, -1)
}

func TestNewRefused(t *testing.T) { // P14.1, P14.5: layer 8's Check's errors
	side, below, many := kings, kings, kings
	side.Side, below.Hands[0][1], many.Hands[1][7] = 2, -1, 3
	refused := []struct {
		p    api.Position
		want api.Errno
	}{
		{side, api.ErrRange}, {below, api.ErrPiece}, {put(map[int]api.Piece{0: k, 80: K, 40: 13}), api.ErrPiece}, {api.Position{}, api.ErrKings}, {put(map[int]api.Piece{0: k}), api.ErrKings},
		{many, api.ErrCount}, {put(map[int]api.Piece{0: k, 80: K, 9: P}), api.ErrDead}, {put(map[int]api.Piece{0: k, 80: K, 40: P, 42: P}), api.ErrNifu}, {put(map[int]api.Piece{0: k, 80: K, 4: R}), api.ErrCheck},
	}
	for _, r := range refused {
		if g, e := game.New(r.p); g != nil || e != r.want {
			t.Errorf("New(%v): %v %v, want %v", r.p, g, e, r.want)
		}
		for _, list := range [][]api.Move{nil, steps(80, 79), steps(60, 59, 20, 21), {{From: -1}}} {
			if g, n, e := game.Play(r.p, list...); g != nil || n != 0 || e != r.want {
				t.Errorf("Play(%v): %v %d %v, want %v", r.p, g, n, e, r.want)
			}
		}
	}
}

// wrong are moves that are legal nowhere.
var wrong = []api.Move{
	{}, {From: -1, To: 40}, {From: 81, To: 40}, {From: 60, To: -1}, {From: 60, To: 81}, {To: 40, Drop: -1}, {To: 40, Drop: 8}, {To: 40, Drop: 9}, {To: -1, Drop: 1}, {To: 81, Drop: 1}, {From: 1, To: 40, Drop: 1}, {To: 40, Drop: 1, Promote: true},
	{From: math.MinInt, To: math.MaxInt}, {From: 60, To: 1<<32 + 59}, {From: 60 + 256, To: 59 + 256}, {To: 40, Drop: 257}, {To: 40, Drop: math.MinInt}, {From: 60, To: 60},
}

// untouched is a check that a game is as it was.
func untouched(t *testing.T, name string, g *game.Game, now api.Position, made []api.Move) {
	t.Helper()
	if state, loser := g.State(); state != game.Ongoing || loser != -1 || g.Now() != now || !slices.Equal(g.Moves(), made) {
		t.Errorf("%s: something has changed", name)
	}
}

func TestMoveRefused(t *testing.T) { // P14.2: what isn't legal; nothing changes
	list := steps(60, 59, 20, 21, 70, 10, 18, 10)
	list[2].Promote = true
	for n := range list {
		g := play(t, "refused", board.Start(), list[:n])
		now := g.Now()
		legalOnes := moves(now)
		for from := range api.Squares {
			for to := range api.Squares {
				for _, m := range []api.Move{{From: from, To: to}, {From: from, To: to, Promote: true}, {To: to, Drop: from % 9}} {
					if slices.Contains(legalOnes, m) {
						continue
					}
					if e := g.Move(m); e != api.ErrMove {
						t.Fatalf("%v behind %d moves: %v", m, n, e)
					}
				}
			}
		}
		for _, m := range wrong {
			if e := g.Move(m); e != api.ErrMove {
				t.Errorf("%v: %v", m, e)
			}
		}
		untouched(t, "refused", g, now, list[:n])
		if e := g.Move(list[n]); e != api.OK || g.Now() != after(now, list[n]) {
			t.Errorf("the right one behind wrong ones: %v", e)
		}
	}
}

func TestWrongMovesDoNotCount(t *testing.T) { // P14.2: nor do they bring a position once more, or break a row of checks
	g := play(t, "checks", rook, nil)
	for n, m := range times(3, checks) {
		untouched(t, "checks", g, g.Now(), times(3, checks)[:n])
		for _, x := range append(steps(80, 0, 0, 80, 13, 80, 4, 13, 13, 22)[:3], wrong...) {
			if e := g.Move(x); e != api.ErrMove {
				t.Errorf("%v: %v", x, e)
			}
		}
		if e := g.Move(m); e != api.OK {
			t.Fatalf("move %d: %v", n, e)
		}
	}
	stands(t, "checks", g, game.Perpetual, 0)
}

func TestResign(t *testing.T) { // P14.2, P14.3: both sides
	for n, loser := range []int{0, 1, 0, 1} {
		g := play(t, "resign", board.Start(), steps(60, 59, 20, 21, 59, 58)[:n])
		now := g.Now()
		if e := g.Resign(); e != api.OK || g.Now() != now || len(g.Moves()) != n {
			t.Errorf("Resign: %v", e)
		}
		stands(t, "resigned", g, game.Resigned, loser)
	}
	g := play(t, "White first", toMove(kings), nil)
	if e := g.Resign(); e != api.OK {
		t.Errorf("Resign: %v", e)
	}
	stands(t, "White first", g, game.Resigned, 1)
	// The chapter's example.
	g, n, e := game.Play(board.Start(), api.Move{From: 60, To: 59})
	if n != 1 || e != api.OK || g.Resign() != api.OK {
		t.Errorf("Play: %d %v", n, e)
	}
	stands(t, "the example", g, game.Resigned, api.White)
}

// spoil fills a list, and its spare room.
func spoil(list []api.Move) {
	list = list[:cap(list)]
	for i := range list {
		list[i] = api.Move{From: -7, To: 99, Drop: -1, Promote: true}
	}
}

func TestNothingIsShared(t *testing.T) { // P14.1, P2: what was answered stays as it was, and what is done to it changes nothing
	list := steps(60, 59, 20, 21, 16, 25, 64, 55)
	given := append(make([]api.Move, 0, 50), list...)
	g, n, e := game.Play(board.Start(), given[:2]...)
	if n != 2 || e != api.OK {
		t.Fatalf("Play: %d %v", n, e)
	}
	if !slices.Equal(given, list) || given[:5][4] != (api.Move{}) {
		t.Error("the list is changed")
	}
	spoil(given)
	now, kept, other := g.Now(), g.Moves(), g.Moves()
	spoil(other)
	for _, m := range list[2:] {
		if e := g.Move(m); e != api.OK {
			t.Fatalf("%v: %v", m, e)
		}
		spoil(g.Moves())
	}
	if !slices.Equal(kept, list[:2]) || now != after(after(board.Start(), list[0]), list[1]) || g.Start() != board.Start() || !slices.Equal(g.Moves(), list) {
		t.Errorf("%v, %v", kept, g.Moves())
	}
	spoil(kept)
	if want := after(after(now, list[2]), list[3]); g.Now() != want || !slices.Equal(g.Moves(), list) {
		t.Errorf("%v", g.Moves())
	}
	if g := play(t, "none", kings, nil); len(g.Moves()) != 0 || g.Now() != kings || g.Start() != kings {
		t.Error("without moves")
	}
}

func TestGamesAreApart(t *testing.T) { // P2: what is done in one game is told of it alone
	first, second := play(t, "first", board.Start(), nil), play(t, "second", board.Start(), nil)
	for _, m := range times(3, toFro) {
		if e := first.Move(m); e != api.OK {
			t.Fatal(e)
		}
	}
	stands(t, "first", first, game.Draw, -1)
	untouched(t, "second", second, board.Start(), nil)
	stands(t, "second", play(t, "second", second.Now(), times(2, toFro)), game.Ongoing, -1)
}

func TestPlay(t *testing.T) { // P14.5
	list := times(3, toFro)
	over := append(slices.Clone(list), steps(60, 59, 20, 21)...)
	rows := []struct {
		name  string
		p     api.Position
		moves []api.Move
		made  int
		e     api.Errno
		state int
	}{
		{"no moves", board.Start(), nil, 0, api.OK, game.Ongoing},
		{"one move", board.Start(), steps(60, 59), 1, api.OK, game.Ongoing},
		{"the first one isn't legal", board.Start(), steps(60, 58, 60, 59), 0, api.ErrMove, game.Ongoing},
		{"the second one isn't legal", board.Start(), steps(60, 59, 60, 59, 20, 21), 1, api.ErrMove, game.Ongoing},
		{"the last one isn't legal", board.Start(), steps(60, 59, 20, 21, 20, 21), 2, api.ErrMove, game.Ongoing},
		{"one that isn't legal behind one that isn't", board.Start(), append(steps(60, 59), wrong...), 1, api.ErrMove, game.Ongoing},
		{"to the end", board.Start(), list, 12, api.OK, game.Draw},
		{"beyond the end", board.Start(), over, 12, api.ErrOver, game.Draw},
		{"wrong ones beyond the end", board.Start(), append(slices.Clone(list), wrong...), 12, api.ErrOver, game.Draw},
		{"mated at the beginning, no moves", put(map[int]api.Piece{44: K, 0: k, 43: g, 42: w}), nil, 0, api.OK, game.Mated},
		{"mated at the beginning", put(map[int]api.Piece{44: K, 0: k, 43: g, 42: w}), steps(44, 35), 0, api.ErrOver, game.Mated},
	}
	for _, r := range rows {
		g, n, e := game.Play(r.p, r.moves...)
		if n != r.made || e != r.e || !slices.Equal(g.Moves(), r.moves[:n]) || g.Start() != r.p {
			t.Errorf("%s: %d %v", r.name, n, e)
			continue
		}
		want := r.p
		for _, m := range r.moves[:n] {
			want = after(want, m)
		}
		if state, _ := g.State(); state != r.state || g.Now() != want {
			t.Errorf("%s: %d, %v", r.name, state, g.Now())
		}
	}
}

// with is the position with one piece more, if that can be.
func with(p api.Position, q int, x api.Piece) api.Position {
	next := p
	next.Board[q] = x
	if p.Board[q] == 0 && attack.Check(next) == api.OK {
		return next
	}
	return p
}

// near is a position that passes layer 8's Check, with few pieces, and seldom one in hand.
func near(d *dice) api.Position {
	const kinds = "\x01\x02\x03\x04\x05\x06\x07\x07\x06\x0e\x0f"
	p := put(map[int]api.Piece{54 + d.below(27): K, d.below(27): k})
	for attack.Check(p) != api.OK {
		p = put(map[int]api.Piece{54 + d.below(27): K, d.below(27): k})
	}
	p.Side = int8(d.below(2))
	for range 1 + d.below(5) {
		p = with(p, d.below(api.Squares), api.Piece(kinds[d.below(len(kinds))])+api.Piece(white*d.below(2)))
	}
	if d.below(4) == 0 {
		next := p
		next.Hands[d.below(2)][1+d.below(7)]++
		if attack.Check(next) == api.OK {
			return next
		}
	}
	return p
}

// choose is a legal move: oftenest one to a position that has come, and of one side, if one is named, one that gives check.
func choose(d *dice, past []api.Position, checker int) api.Move {
	p := past[len(past)-1]
	all := moves(p)
	only := all
	if int(p.Side) == checker && d.below(40) > 0 {
		only = slices.DeleteFunc(slices.Clone(all), func(m api.Move) bool { return !checked(after(p, m)) })
	}
	if len(only) == 0 {
		only = all
	}
	if d.below(40) > 0 {
		known := slices.DeleteFunc(slices.Clone(only), func(m api.Move) bool { return !slices.Contains(past, after(p, m)) })
		if len(known) > 0 {
			only = known
		}
	}
	return only[d.below(len(only))]
}

func TestAnyGames(t *testing.T) { // P14.1 to P14.4: against what is told by all positions from the beginning on
	d := dice(5)
	ends := map[[2]int]int{}
	for range 1500 {
		p := near(&d)
		past := []api.Position{p}
		var list []api.Move
		g, e := game.New(p)
		if e != api.OK {
			t.Fatal(e)
		}
		checker := d.below(3)
		for range 60 {
			state, loser := judged(past)
			if s, l := g.State(); s != state || l != loser || g.Now() != past[len(past)-1] || g.Start() != p || !slices.Equal(g.Moves(), list) {
				t.Fatalf("%v, %v: %d %d, want %d %d", p, list, s, l, state, loser)
			}
			if state != game.Ongoing {
				ends[[2]int{state, loser}]++
				break
			}
			m := choose(&d, past, checker)
			if e := g.Move(m); e != api.OK {
				t.Fatalf("%v: %v", m, e)
			}
			list = append(list, m)
			past = append(past, after(past[len(past)-1], m))
		}
	}
	for _, end := range [][2]int{{1, 0}, {1, 1}, {2, -1}, {3, 0}, {3, 1}} {
		if ends[end] < 5 {
			t.Errorf("%v only %d times", end, ends[end])
		}
	}
}

// raw is a position of any numbers.
func raw(d *dice) api.Position {
	var p api.Position
	full := 1 + d.below(10)
	for q := range p.Board {
		if d.below(10) < full {
			p.Board[q] = api.Piece(d.below(34))
		}
		if d.below(20) == 0 {
			p.Board[q] = api.Piece(d.below(256))
		}
	}
	for side := range p.Hands {
		for kind := range p.Hands[side] {
			p.Hands[side][kind] = int8(d.below(256))
		}
	}
	p.Side = int8(d.below(256))
	return p
}

func TestNoCallPanics(t *testing.T) { // P1: at any positions and moves
	d := dice(6)
	for range 2000 {
		p := raw(&d)
		if g, e := game.New(p); (g == nil) != (e != api.OK) || e != attack.Check(p) {
			t.Fatalf("New(%v): %v", p, e)
		}
		game.Play(p, wrong...)
		q := near(&d)
		list := make([]api.Move, d.below(10))
		for i := range list {
			list[i] = api.Move{From: d.below(1000) - 500, To: d.below(1000) - 500, Drop: max(0, d.below(100)-50), Promote: d.below(2) == 0}
		}
		g, n, e := game.Play(q, list...)
		if g == nil || n > len(list) || n == len(list) && e != api.OK {
			t.Fatalf("Play(%v, %v): %d %v", q, list, n, e)
		}
		for _, m := range append(wrong, list...) {
			g.Move(m)
		}
		g.Resign()
	}
}
