package board_test

import (
	"math"
	"testing"

	"kakugyo/api"
	"kakugyo/board"
)

// kings is a position with the two kings alone, which can be.
func kings() api.Position {
	var p api.Position
	p.Board[36], p.Board[44] = api.King+white, api.King
	return p
}

// totals are how many of each kind there are, from 0 on.
var totals = [9]int{0, 18, 4, 4, 4, 4, 2, 2, 2}

// raws are the kinds that kinds are in hand, from 0 on.
var raws = [16]int{0, 1, 2, 3, 4, 5, 6, 7, 8, 1, 2, 3, 4, 0, 6, 7}

// expected is P5.3 told square by square; which side's piece it is is told by its number.
func expected(p api.Position) api.Errno {
	switch {
	case p.Side != 0 && p.Side != 1:
		return api.ErrRange
	case hasUnknown(p):
		return api.ErrPiece
	case has(p, api.King) != 1 || has(p, api.King+white) != 1:
		return api.ErrKings
	case hasTooMany(p):
		return api.ErrCount
	case hasStuck(p):
		return api.ErrDead
	case hasDouble(p):
		return api.ErrNifu
	}
	return api.OK
}

func hasUnknown(p api.Position) bool {
	for _, x := range p.Board {
		if x != 0 && !isPiece(x) {
			return true
		}
	}
	for side := range 2 {
		for kind := range 8 {
			if p.Hands[side][kind] < 0 || kind == 0 && p.Hands[side][kind] > 0 {
				return true
			}
		}
	}
	return false
}

func has(p api.Position, x api.Piece) int {
	n := 0
	for _, y := range p.Board {
		if y == x {
			n++
		}
	}
	return n
}

func hasTooMany(p api.Position) bool {
	for kind := 1; kind <= 7; kind++ {
		n := int(p.Hands[0][kind]) + int(p.Hands[1][kind])
		for _, x := range p.Board {
			if raws[x%white] == kind {
				n++
			}
		}
		if n > totals[kind] {
			return true
		}
	}
	return false
}

func hasStuck(p api.Position) bool {
	for q, x := range p.Board {
		switch rank := q % 9; x {
		case api.Pawn, api.Lance:
			if rank == 0 {
				return true
			}
		case api.Knight:
			if rank <= 1 {
				return true
			}
		case api.Pawn + white, api.Lance + white:
			if rank == 8 {
				return true
			}
		case api.Knight + white:
			if rank >= 7 {
				return true
			}
		}
	}
	return false
}

func hasDouble(p api.Position) bool {
	for a, x := range p.Board {
		for b, y := range p.Board {
			if a != b && a/9 == b/9 && x == y && x%white == api.Pawn {
				return true
			}
		}
	}
	return false
}

// spoil is something wrong with the kings' position, and the error of it alone.
type spoil struct {
	name string
	want api.Errno
	do   func(p *api.Position)
}

// spoils go by the order of their errors, and touch squares and hands of their own.
var spoils = []spoil{
	{"side 2", api.ErrRange, func(p *api.Position) { p.Side = 2 }},
	{"side -1", api.ErrRange, func(p *api.Position) { p.Side = -1 }},
	{"13 on the board", api.ErrPiece, func(p *api.Position) { p.Board[40] = 13 }},
	{"16 on the board", api.ErrPiece, func(p *api.Position) { p.Board[80] = 16 }},
	{"29 on the board", api.ErrPiece, func(p *api.Position) { p.Board[0] = 29 }},
	{"32 on the board", api.ErrPiece, func(p *api.Position) { p.Board[79] = 32 }},
	{"-1 on the board", api.ErrPiece, func(p *api.Position) { p.Board[1] = -1 }},
	{"-1 in hand", api.ErrPiece, func(p *api.Position) { p.Hands[1][api.Knight] = -1 }},
	{"one of no kind in hand", api.ErrPiece, func(p *api.Position) { p.Hands[0][0] = 1 }},
	{"less than none of no kind in hand", api.ErrPiece, func(p *api.Position) { p.Hands[1][0] = -1 }},
	{"two kings of Black's", api.ErrKings, func(p *api.Position) { p.Board[50] = api.King }},
	{"two kings of White's", api.ErrKings, func(p *api.Position) { p.Board[51] = api.King + white }},
	{"a rook too many in hand", api.ErrCount, func(p *api.Position) { p.Hands[0][api.Rook], p.Hands[1][api.Rook] = 2, 1 }},
	{"a bishop too many", api.ErrCount, func(p *api.Position) { p.Hands[0][api.Bishop], p.Board[60] = 2, api.Bishop+api.Promoted }},
	{"a dead pawn", api.ErrDead, func(p *api.Position) { p.Board[9] = api.Pawn }},
	{"a dead lance", api.ErrDead, func(p *api.Position) { p.Board[71] = api.Lance + white }},
	{"a dead knight", api.ErrDead, func(p *api.Position) { p.Board[19] = api.Knight }},
	{"two pawns of Black's", api.ErrNifu, func(p *api.Position) { p.Board[12], p.Board[14] = api.Pawn, api.Pawn }},
	{"two pawns of White's", api.ErrNifu, func(p *api.Position) { p.Board[63], p.Board[70] = api.Pawn+white, api.Pawn+white }},
}

func TestCheckTellsTheFirst(t *testing.T) { // P5.3: alone, by twos, and with all that are further behind
	for i, a := range spoils {
		p := kings()
		a.do(&p)
		all := p
		if got := board.Check(p); got != a.want || expected(p) != a.want {
			t.Errorf("%s: %v, want %v", a.name, got, a.want)
		}
		for _, b := range spoils[i+1:] {
			two := p
			b.do(&two)
			b.do(&all)
			if got := board.Check(two); got != a.want {
				t.Errorf("%s, and %s: %v, want %v", a.name, b.name, got, a.want)
			}
		}
		if got := board.Check(all); got != a.want {
			t.Errorf("%s, and all behind: %v, want %v", a.name, got, a.want)
		}
	}
}

func TestCheckOfSides(t *testing.T) { // P5.3
	for n := math.MinInt8; n <= math.MaxInt8; n++ {
		p := kings()
		p.Side = int8(n)
		want := api.ErrRange
		if n == 0 || n == 1 {
			want = api.OK
		}
		if got := board.Check(p); got != want {
			t.Errorf("side %d: %v, want %v", n, got, want)
		}
	}
}

func TestCheckOfOnePieceMore(t *testing.T) { // P5.3: each number on each square, beside the kings or in their place
	for n := math.MinInt8; n <= math.MaxInt8; n++ {
		for q := range api.Squares {
			p := kings()
			p.Board[q] = api.Piece(n)
			if got, want := board.Check(p), expected(p); got != want {
				t.Errorf("%d on %d: %v, want %v", n, q, got, want)
			}
		}
	}
}

func TestCheckOfHands(t *testing.T) { // P5.3: each count of each kind, also of two hands together
	for side := range 2 {
		for kind := range 8 {
			for n := math.MinInt8; n <= math.MaxInt8; n++ {
				p := kings()
				p.Hands[side][kind] = int8(n)
				for _, other := range []int8{0, 1, 2, 127, -1, -128} {
					p.Hands[1-side][kind] = other
					if got, want := board.Check(p), expected(p); got != want {
						t.Errorf("%d of %d in the hand of %d, %d in the other: %v, want %v", n, kind, side, other, got, want)
					}
				}
			}
		}
	}
}

func TestCheckOfKings(t *testing.T) { // P5.3: up to three of each side
	for black := range 4 {
		for white := range 4 {
			var p api.Position
			for n := range black {
				p.Board[20*n] = api.King
			}
			for n := range white {
				p.Board[20*n+7] = api.King + 16
			}
			want := api.ErrKings
			if black == 1 && white == 1 {
				want = api.OK
			}
			if got := board.Check(p); got != want {
				t.Errorf("%d and %d kings: %v, want %v", black, white, got, want)
			}
		}
	}
	if got := board.Check(api.Position{}); got != api.ErrKings {
		t.Errorf("nothing: %v", got)
	}
}

// spread puts so many of a kind on the board where they can be: raw ones of both sides, and promoted ones.
func spread(p *api.Position, kind, n int) {
	shapes := []api.Piece{api.Piece(kind), api.Piece(kind + white)}
	if raws[(kind+8)%16] == kind {
		shapes = append(shapes, api.Piece(kind+8), api.Piece(kind+8+white))
	}
	for i := range n {
		p.Board[i%9*9+3+i/9] = shapes[i%len(shapes)]
	}
}

func TestCheckOfCounts(t *testing.T) { // P5.3: as many as there are, and one more, on the board and in hand
	for kind := 1; kind <= 7; kind++ {
		for onBoard := 0; onBoard <= totals[kind]+1; onBoard++ {
			for inHand := 0; inHand <= totals[kind]+1; inHand++ {
				for black := range inHand + 1 {
					var p api.Position
					p.Board[72], p.Board[8] = api.King+white, api.King
					spread(&p, kind, onBoard)
					p.Hands[0][kind], p.Hands[1][kind] = int8(black), int8(inHand-black)
					want := api.OK
					if onBoard+inHand > totals[kind] {
						want = api.ErrCount
					}
					if got := board.Check(p); got != want {
						t.Errorf("%d of %d on the board, %d in hand: %v, want %v", onBoard, kind, inHand, got, want)
					}
				}
			}
		}
	}
}

func TestCheckOfEverything(t *testing.T) { // P5.3: all pieces there are, and one more of each
	inHand := kings()
	for kind := 1; kind <= 7; kind++ {
		inHand.Hands[kind%2][kind] = int8(totals[kind])
	}
	for _, p := range []api.Position{inHand, board.Start()} {
		for side := range int8(2) {
			p.Side = side
			if got := board.Check(p); got != api.OK {
				t.Errorf("all that there is: %v", got)
			}
		}
		for kind := 1; kind <= 7; kind++ {
			for side := range 2 {
				more := p
				more.Hands[side][kind]++
				if got := board.Check(more); got != api.ErrCount {
					t.Errorf("one more of %d: %v", kind, got)
				}
			}
			for _, x := range []int{kind, kind + 8} {
				more := p
				more.Board[40] = api.Piece(x)
				want := api.ErrCount
				if !isPiece(api.Piece(x)) {
					want = api.ErrPiece
				}
				if got := board.Check(more); got != want {
					t.Errorf("one more %d on the board: %v, want %v", x, got, want)
				}
			}
		}
	}
}

func TestCheckOfTwoPawns(t *testing.T) { // P5.3: any two squares; of two sides, one of them promoted, or both
	for a := range api.Squares {
		for b := range a {
			for _, x := range []api.Piece{1, 9, 17, 25} {
				for _, y := range []api.Piece{1, 9, 17, 25} {
					p := kings()
					p.Board[a], p.Board[b] = x, y
					if got, want := board.Check(p), expected(p); got != want {
						t.Errorf("%d on %d, %d on %d: %v, want %v", x, a, y, b, got, want)
					}
				}
			}
		}
	}
}

func TestCheckOfNinePawnsEach(t *testing.T) { // P5.3: one in each file can be; a third one in a file can't
	p := kings()
	for file := range 9 {
		p.Board[9*file+2], p.Board[9*file+6] = api.Pawn+white, api.Pawn
	}
	if got := board.Check(p); got != api.OK {
		t.Errorf("nine pawns each: %v", got)
	}
	p.Board[2], p.Board[6] = 0, 0
	for _, q := range []int{75, 76} {
		p.Board[q] = api.Pawn
		if got := board.Check(p); got != api.ErrNifu {
			t.Errorf("one more on %d: %v", q, got)
		}
	}
}

func TestCheckOfAnything(t *testing.T) { // P1, P5.3
	d := dice(7)
	seen := map[api.Errno]int{}
	for n := range 40000 {
		p := few(&d)
		if n%20 == 0 {
			p = raw(&d)
		}
		kept := p
		got, want := board.Check(p), expected(p)
		if got != want {
			t.Fatalf("Check(%v): %v, want %v", p, got, want)
		}
		if p != kept {
			t.Fatal("the position is changed")
		}
		seen[got]++
	}
	for _, e := range []api.Errno{api.OK, api.ErrRange, api.ErrPiece, api.ErrKings, api.ErrCount, api.ErrDead, api.ErrNifu} {
		if seen[e] < 50 {
			t.Errorf("%v was the answer %d times only", e, seen[e])
		}
	}
}

// few is a position with few pieces, which is wrong now and then.
func few(d *dice) api.Position {
	p := kings()
	for range d.below(9) {
		x := api.Piece(d.below(32))
		if d.below(3) == 0 {
			x = api.Pawn
		}
		p.Board[d.below(api.Squares)] = x
	}
	for range d.below(5) {
		p.Hands[d.below(2)][d.below(8)] = int8(d.below(4))
	}
	if d.below(3) > 0 {
		p.Hands[0][0], p.Hands[1][0] = 0, 0
		for q, x := range p.Board {
			if !isPiece(x) {
				p.Board[q] = 0
			}
		}
	}
	p.Side = int8(d.below(2))
	if d.below(20) == 0 {
		p.Side = int8(d.below(256))
	}
	return p
}
