package board_test

import (
	"math"
	"testing"

	"kakugyo/api"
	"kakugyo/board"
	"kakugyo/set"
)

const white = 16

// wrong is what is no square: the nearest ones, those that a shift, a product or fewer bits would wrap round to one, and the farthest.
var wrong = []int{-1, -2, -9, -10, -81, 81, 82, 89, 90, 99, 127, 128, 255, 256, 256 + 40, 1<<16 + 40, 1 << 32, 1<<32 + 40, -1<<32 + 40, math.MinInt, math.MinInt + 40, math.MaxInt}

// numbers are all that come near to sides and kinds, those that wrap round to one in fewer bits, and the farthest.
func numbers() []int {
	list := []int{256 + 1, 1<<8 + 17, 1<<16 + 1, 1<<32 + 1, -1<<32 + 1, 1 << 32, -1 << 32, math.MinInt, math.MinInt + 1, math.MinInt + 8, math.MaxInt, math.MaxInt - 6}
	for n := -40; n <= 40; n++ {
		list = append(list, n)
	}
	return list
}

// isPiece is told by the number alone.
func isPiece(x api.Piece) bool {
	return x >= 1 && x <= 15 && x != 13 || x >= 17 && x <= 31 && x != 29
}

// dice are numbers without a pattern, the same ones in each run.
type dice uint64

func (d *dice) below(n int) int {
	*d = *d*6364136223846793005 + 1442695040888963407
	return int(uint64(*d) >> 33 % uint64(n))
}

// where are the squares of a model on which pieces stand that fit.
func where(m [api.Squares]api.Piece, fits func(api.Piece) bool) set.Set {
	var s set.Set
	for q, x := range m {
		if x != 0 && fits(x) {
			s = s.With(q)
		}
	}
	return s
}

func of(side, kind int) func(api.Piece) bool {
	return func(x api.Piece) bool { return int(x) == kind+white*side }
}

func bySide(side int) func(api.Piece) bool {
	return func(x api.Piece) bool { return int(x)/white == side }
}

func anyone(api.Piece) bool { return true }

// hold holds all that a board tells of its pieces against a model.
func hold(t *testing.T, what string, b *board.Board, m [api.Squares]api.Piece) {
	t.Helper()
	if b.Position.Board != m {
		t.Fatalf("%s: the position's board is %v, want %v", what, b.Position.Board, m)
	}
	for q, x := range m {
		if b.At(q) != x {
			t.Fatalf("%s: At(%d): %d, want %d", what, q, b.At(q), x)
		}
	}
	for side := range 2 {
		for kind := 1; kind < white; kind++ {
			if got, want := b.Of(side, kind), where(m, of(side, kind)); got != want {
				t.Fatalf("%s: Of(%d, %d): %v, want %v", what, side, kind, got.Squares(), want.Squares())
			}
		}
		if got, want := b.Pieces(side), where(m, bySide(side)); got != want {
			t.Fatalf("%s: Pieces(%d): %v, want %v", what, side, got.Squares(), want.Squares())
		}
		if got, want := b.King(side), where(m, of(side, api.King)).First(); got != want {
			t.Fatalf("%s: King(%d): %d, want %d", what, side, got, want)
		}
	}
	if got, want := b.Taken(), where(m, anyone); got != want {
		t.Fatalf("%s: Taken: %v, want %v", what, got.Squares(), want.Squares())
	}
}

// raw is a position of any numbers.
func raw(d *dice) api.Position {
	var p api.Position
	for q := range p.Board {
		p.Board[q] = api.Piece(d.below(256))
		if d.below(3) > 0 {
			p.Board[q] = api.Piece(d.below(34))
		}
	}
	for side := range p.Hands {
		for kind := range p.Hands[side] {
			p.Hands[side][kind] = int8(d.below(256))
		}
	}
	p.Side = int8(d.below(256))
	return p
}

// clean is a position's board without what is no piece.
func clean(p api.Position) [api.Squares]api.Piece {
	m := p.Board
	for q, x := range m {
		if !isPiece(x) {
			m[q] = 0
		}
	}
	return m
}

func TestNew(t *testing.T) { // P5.1: hands and side as they are, raw ones too
	d := dice(1)
	for n := range 300 {
		p := raw(&d)
		if n%2 == 0 {
			p.Side = int8(n / 2 % 2)
		}
		kept := p
		b := board.New(p)
		hold(t, "New", b, clean(p))
		if b.Hands != p.Hands || b.Side != p.Side {
			t.Errorf("hands %v and side %d, want %v and %d", b.Hands, b.Side, p.Hands, p.Side)
		}
		if p != kept {
			t.Error("the position is changed")
		}
	}
	hold(t, "New of nothing", board.New(api.Position{}), [api.Squares]api.Piece{})
}

func TestNewPutsAllThatIsAPiece(t *testing.T) { // P5.1: each number on each square, alone
	for n := math.MinInt8; n <= math.MaxInt8; n++ {
		for q := range api.Squares {
			var p api.Position
			p.Board[q] = api.Piece(n)
			hold(t, "New of one piece", board.New(p), clean(p))
		}
	}
}

func TestPutEachOverEach(t *testing.T) { // P5.1: where another one stands, the same one, and where nothing is to stand
	squares := []int{0, 8, 40, 62, 63, 80}
	for i, q := range squares {
		near := squares[(i+1)%len(squares)]
		for x := range 34 {
			for n := math.MinInt8; n <= math.MaxInt8; n++ {
				var m [api.Squares]api.Piece
				b := board.New(api.Position{})
				put := func(q int, x api.Piece) {
					b.Put(q, x)
					m[q] = 0
					if isPiece(x) {
						m[q] = x
					}
				}
				put(near, api.Piece(x))
				put(q, api.Piece(x))
				put(q, api.Piece(n))
				if got, want := b.At(q), m[q]; got != want {
					t.Fatalf("%d over %d on %d: %d, want %d", n, x, q, got, want)
				}
				if n >= -1 && n <= 33 {
					hold(t, "Put", b, m)
				}
			}
		}
	}
}

func TestPutManyTimes(t *testing.T) { // P5.1, P5.2
	d := dice(2)
	for range 20 {
		p := raw(&d)
		b, m := board.New(p), clean(p)
		for range 400 {
			q, x := d.below(api.Squares), api.Piece(d.below(34))
			if d.below(10) == 0 {
				x = api.Piece(d.below(256))
			}
			b.Put(q, x)
			m[q] = 0
			if isPiece(x) {
				m[q] = x
			}
			hold(t, "Put", b, m)
		}
		if b.Hands != p.Hands || b.Side != p.Side {
			t.Error("Put has changed hands or side")
		}
	}
}

func TestPutOnWhatIsNoSquare(t *testing.T) { // P5.1, P1
	d := dice(3)
	p := raw(&d)
	for _, q := range wrong {
		b := board.New(p)
		for n := math.MinInt8; n <= math.MaxInt8; n++ {
			b.Put(q, api.Piece(n))
		}
		hold(t, "Put on what is no square", b, clean(p))
		if b.Hands != p.Hands || b.Side != p.Side {
			t.Errorf("Put on %d has changed hands or side", q)
		}
	}
}

func TestAtWhatIsNoSquare(t *testing.T) { // P5.2
	var p api.Position
	for q := range p.Board {
		p.Board[q] = api.King
	}
	b := board.New(p)
	for _, q := range wrong {
		if got := b.At(q); got != 0 {
			t.Errorf("At(%d): %d", q, got)
		}
	}
}

func TestOfWhatThereIsNot(t *testing.T) { // P5.2: no side, no kind, or none of it on the board
	var p api.Position
	for q := range p.Board {
		p.Board[q] = api.Piece(q % 33)
	}
	b := board.New(p)
	m := clean(p)
	for _, side := range numbers() {
		isSide := side == 0 || side == 1
		for _, kind := range numbers() {
			var want set.Set
			if isSide && kind >= 1 && kind <= 15 {
				want = where(m, of(side, kind))
			}
			if got := b.Of(side, kind); got != want {
				t.Errorf("Of(%d, %d): %v, want %v", side, kind, got.Squares(), want.Squares())
			}
		}
		if isSide {
			continue
		}
		if got := b.Pieces(side); got != (set.Set{}) {
			t.Errorf("Pieces(%d): %v", side, got.Squares())
		}
		if got := b.King(side); got != -1 {
			t.Errorf("King(%d): %d", side, got)
		}
	}
}

func TestKing(t *testing.T) { // P5.2: none, one, the least of several, whichever was put first
	for side := range 2 {
		king := api.Piece(api.King + white*side)
		other := api.Piece(api.King + white*(1-side))
		b := board.New(api.Position{})
		if b.King(side) != -1 {
			t.Errorf("no king of %d: %d", side, b.King(side))
		}
		for _, step := range []struct {
			q    int
			x    api.Piece
			want int
		}{
			{3, other, -1}, {40, king, 40}, {80, king, 40}, {20, king, 20}, {63, king, 20}, {20, other, 40}, {40, 0, 63}, {63, api.Gold, 80}, {0, king, 0}, {80, 13, 0}, {0, 0, -1},
		} {
			b.Put(step.q, step.x)
			if got := b.King(side); got != step.want {
				t.Errorf("King(%d), %d on %d: %d, want %d", side, step.x, step.q, got, step.want)
			}
		}
	}
}

func TestHand(t *testing.T) { // P5.2: raw counts as they are; 0 of the number 0, kings, promoted ones, and what is none
	var p api.Position
	for side := range 2 {
		for kind := range 8 {
			p.Hands[side][kind] = int8(10*side + kind + 1)
		}
	}
	p.Hands[0][3], p.Hands[1][4], p.Hands[1][5], p.Hands[0][6] = -1, math.MinInt8, math.MaxInt8, 0
	b := board.New(p)
	for _, side := range numbers() {
		for _, kind := range numbers() {
			want := 0
			if (side == 0 || side == 1) && kind >= 1 && kind <= 7 {
				want = int(p.Hands[side][kind])
			}
			if got := b.Hand(side, kind); got != want {
				t.Errorf("Hand(%d, %d): %d, want %d", side, kind, got, want)
			}
		}
	}
}

func TestPromotedFields(t *testing.T) { // the chapter's Types: a board embeds its position
	b := board.New(board.Start())
	b.Hands[1][api.Rook]++
	b.Side = api.White
	if b.Hand(1, api.Rook) != 1 || b.Hand(0, api.Rook) != 0 || b.Position.Side != api.White {
		t.Errorf("hands %v, side %d", b.Position.Hands, b.Position.Side)
	}
	var p api.Position = b.Clone().Position
	want := board.Start()
	want.Hands[1][api.Rook], want.Side = 1, api.White
	if p != want {
		t.Errorf("the position: %v", p)
	}
}

func TestClone(t *testing.T) { // P5.2, P2: neither board is changed by what is done to the other
	d := dice(4)
	for range 50 {
		p := raw(&d)
		b := board.New(p)
		c := b.Clone()
		hold(t, "the clone", c, clean(p))
		if c.Hands != p.Hands || c.Side != p.Side {
			t.Error("the clone has other hands or another side")
		}
		change(c, &d)
		hold(t, "the board, its clone being changed", b, clean(p))
		if b.Hands != p.Hands || b.Side != p.Side {
			t.Error("the clone's hands or side are the board's")
		}
		e := b.Clone()
		change(b, &d)
		hold(t, "the clone, its board being changed", e, clean(p))
		if e.Hands != p.Hands || e.Side != p.Side {
			t.Error("the board's hands or side are the clone's")
		}
	}
}

// change changes everything on a board that can be.
func change(b *board.Board, d *dice) {
	for q := range api.Squares {
		x := api.Piece(1 + d.below(12))
		if b.At(q) == x {
			x = 0
		}
		b.Put(q, x)
	}
	for side := range 2 {
		for kind := range 8 {
			b.Hands[side][kind]++
		}
	}
	b.Side++
}

func TestBoardsAreNew(t *testing.T) { // P2
	p := board.Start()
	a, b := board.New(p), board.New(p)
	d := dice(5)
	change(a, &d)
	hold(t, "another board of the same position", b, board.Start().Board)
	hold(t, "a board of it made later", board.New(p), board.Start().Board)
	if b.Hands != p.Hands || b.Side != p.Side {
		t.Error("boards share hands or side")
	}
}

func TestWhatIsAskedChangesNothing(t *testing.T) { // P2
	d := dice(6)
	p := raw(&d)
	b := board.New(p)
	for _, n := range append(numbers(), wrong...) {
		b.At(n)
		b.Pieces(n)
		b.King(n)
		b.Hand(n, 1)
		b.Hand(1, n)
		b.Of(n, 1)
		b.Of(1, n)
	}
	b.Taken()
	b.Clone()
	hold(t, "asked", b, clean(p))
	if b.Hands != p.Hands || b.Side != p.Side {
		t.Error("what is asked has changed hands or side")
	}
}
