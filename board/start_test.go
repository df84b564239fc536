package board_test

import (
	"strings"
	"testing"

	"kakugyo/api"
	"kakugyo/board"
	"kakugyo/set"
)

// picture is the Start: a row is a rank, the files go from 0 to 8, from the left to the right.
const picture = `
l n s g k g s n l
. b . . . . . r .
p p p p p p p p p
. . . . . . . . .
. . . . . . . . .
. . . . . . . . .
P P P P P P P P P
. R . . . . . B .
L N S G K G S N L`

func TestStart(t *testing.T) { // P5.4
	var want api.Position
	for i, x := range strings.Fields(picture) {
		q := i%9*9 + i/9
		if kind := strings.Index("PLNSGBRK", x); kind >= 0 {
			want.Board[q] = api.Piece(kind + 1)
		}
		if kind := strings.Index("plnsgbrk", x); kind >= 0 {
			want.Board[q] = api.Piece(kind + 17)
		}
	}
	if got := board.Start(); got != want {
		t.Errorf("Start: %v, want %v", got, want)
	}
}

func TestStartByHand(t *testing.T) { // P5.4, and the chapter's example
	b := board.New(board.Start())
	if b.Taken().Count() != 40 || b.King(api.Black) != 44 || b.King(api.White) != 36 {
		t.Errorf("%d pieces, kings on %d and %d", b.Taken().Count(), b.King(api.Black), b.King(api.White))
	}
	rows := []struct {
		side, kind int
		want       []int
	}{
		{api.Black, api.Bishop, []int{70}}, {api.Black, api.Rook, []int{16}},
		{api.White, api.Bishop, []int{10}}, {api.White, api.Rook, []int{64}},
		{api.Black, api.Lance, []int{8, 80}}, {api.White, api.Lance, []int{0, 72}},
		{api.Black, api.Knight, []int{17, 71}}, {api.White, api.Knight, []int{9, 63}},
		{api.Black, api.Silver, []int{26, 62}}, {api.White, api.Silver, []int{18, 54}},
		{api.Black, api.Gold, []int{35, 53}}, {api.White, api.Gold, []int{27, 45}},
		{api.Black, api.Pawn, set.InRank(6).Squares()}, {api.White, api.Pawn, set.InRank(2).Squares()},
	}
	for _, r := range rows {
		if got := b.Of(r.side, r.kind); got != set.Of(r.want...) {
			t.Errorf("Of(%d, %d): %v, want %v", r.side, r.kind, got.Squares(), r.want)
		}
	}
	if b.Hands != [2][8]int8{} || b.Side != api.Black {
		t.Errorf("hands %v, side %d", b.Hands, b.Side)
	}
}

func TestStartIsNew(t *testing.T) { // P2
	p := board.Start()
	p.Board[44], p.Hands[0][1], p.Side = 0, 1, 1
	if q := board.Start(); q.Board[44] != api.King || q.Hands[0][1] != 0 || q.Side != 0 {
		t.Errorf("what was done to one is told by the next: %v", q)
	}
}
