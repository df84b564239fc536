package key_test

import (
	"math"
	"slices"
	"testing"

	"kakugyo/api"
	"kakugyo/key"
)

const white = 16

// wrong is what is no square: the nearest ones, those that a product or fewer bits would wrap round to one, and the farthest.
var wrong = []int{-1, -2, -9, -10, -81, 81, 82, 89, 90, 99, 127, 128, 255, 256, 256 + 40, 1<<16 + 40, 1 << 32, 1<<32 + 40, -1<<32 + 40, math.MinInt, math.MinInt + 40, math.MaxInt}

// numbers are all that come near to sides, kinds and counts, those that wrap round to one in fewer bits, and the farthest.
func numbers() []int {
	list := []int{127, 128, 129, 255, 256, 256 + 1, 1<<16 + 1, 1<<32 + 1, -1<<32 + 1, 1 << 32, math.MinInt, math.MinInt + 1, math.MaxInt, math.MaxInt - 6}
	for n := -40; n <= 40; n++ {
		list = append(list, n)
	}
	return list
}

// isPiece is told by the number alone.
func isPiece(x int) bool { return x >= 1 && x <= 15 && x != 13 || x >= 17 && x <= 31 && x != 29 }

// all are the keys of all that counts.
func all() []key.Key {
	list := []key.Key{key.Side()}
	for q := range api.Squares {
		for x := range 2 * white {
			if isPiece(x) {
				list = append(list, key.Piece(q, api.Piece(x)))
			}
		}
	}
	for side := range 2 {
		for kind := 1; kind <= 7; kind++ {
			for n := 1; n <= 18; n++ {
				list = append(list, key.Hand(side, kind, n))
			}
		}
	}
	return list
}

func TestNoneIs0AndNoTwoAreTheSame(t *testing.T) { // P6.1
	list := all()
	if len(list) != 1+81*28+2*7*18 {
		t.Fatalf("%d keys", len(list))
	}
	slices.Sort(list)
	if list[0] == 0 {
		t.Error("a key is 0")
	}
	for i := range list[1:] {
		if list[i] == list[i+1] {
			t.Errorf("two keys are %x", list[i])
		}
	}
}

func TestTwoTogetherAreSeldomTheSame(t *testing.T) { // the chapter's short numbers: moves on from a position must not meet, nor be no move at all
	list := all()
	var sums []key.Key
	for i, a := range list {
		sums = append(sums, a)
		for _, b := range list[:i] {
			sums = append(sums, a^b)
		}
	}
	slices.Sort(sums)
	if len(slices.Compact(sums)) != len(list)*(len(list)+1)/2 {
		t.Error("two of the keys together are what others are")
	}
}

func TestPieceOfWhatThereIsNot(t *testing.T) { // P6.1
	for n := math.MinInt8; n <= math.MaxInt8; n++ {
		for q := range api.Squares {
			if got := key.Piece(q, api.Piece(n)); (got != 0) != isPiece(n) {
				t.Errorf("Piece(%d, %d): %x", q, n, got)
			}
		}
		for _, q := range wrong {
			if got := key.Piece(q, api.Piece(n)); got != 0 {
				t.Errorf("Piece(%d, %d): %x", q, n, got)
			}
		}
	}
}

func TestHandOfWhatThereIsNot(t *testing.T) { // P6.1
	for _, side := range numbers() {
		for _, kind := range numbers() {
			for _, n := range numbers() {
				there := side >= 0 && side <= 1 && kind >= 1 && kind <= 7 && n >= 1 && n <= 18
				if got := key.Hand(side, kind, n); (got != 0) != there {
					t.Errorf("Hand(%d, %d, %d): %x", side, kind, n, got)
				}
			}
		}
	}
}

// sum is P6.2 told by Piece, Hand and Side.
func sum(p api.Position) key.Key {
	var k key.Key
	for q := range api.Squares {
		if x := int(p.Board[q]); isPiece(x) {
			k ^= key.Piece(q, api.Piece(x))
		}
	}
	for side := range 2 {
		for kind := 1; kind <= 7; kind++ {
			if n := int(p.Hands[side][kind]); n >= 1 && n <= 18 {
				k ^= key.Hand(side, kind, n)
			}
		}
	}
	if p.Side == 1 {
		k ^= key.Side()
	}
	return k
}

// dice are numbers without a pattern, the same ones in each run.
type dice uint64

func (d *dice) below(n int) int {
	*d = *d*6364136223846793005 + 1442695040888963407
	return int(uint64(*d) >> 33 % uint64(n))
}

func raw(d *dice, below int) api.Position {
	var p api.Position
	for q := range p.Board {
		p.Board[q] = api.Piece(d.below(below))
	}
	for side := range p.Hands {
		for kind := range p.Hands[side] {
			p.Hands[side][kind] = int8(d.below(below))
		}
	}
	p.Side = int8(d.below(below))
	return p
}

func TestOf(t *testing.T) { // P6.2: ordinary positions and raw ones
	d := dice(1)
	for n := range 3000 {
		p := raw(&d, []int{2, 20, 32, 256}[n%4])
		kept := p
		if got, want := key.Of(p), sum(p); got != want || key.Of(p) != got {
			t.Errorf("Of(%v): %x, want %x", p, got, want)
		}
		if p != kept {
			t.Error("the position is changed")
		}
	}
}

func TestOfNothing(t *testing.T) { // the chapter's example
	if got := key.Of(api.Position{}); got != 0 {
		t.Errorf("Of nothing: %x", got)
	}
}

func TestOfOneThing(t *testing.T) { // P6.2: each number in each place; what counts nothing doesn't
	for n := math.MinInt8; n <= math.MaxInt8; n++ {
		for q := range api.Squares {
			var p api.Position
			p.Board[q] = api.Piece(n)
			if got := key.Of(p); got != sum(p) || (got != 0) != isPiece(n) {
				t.Errorf("%d on %d: %x", n, q, got)
			}
		}
		for side := range 2 {
			for kind := range 8 {
				var p api.Position
				p.Hands[side][kind] = int8(n)
				if got := key.Of(p); got != sum(p) || (got != 0) != (kind > 0 && n >= 1 && n <= 18) {
					t.Errorf("%d of %d in the hand of %d: %x", n, kind, side, got)
				}
			}
		}
		want := key.Key(0)
		if n == api.White {
			want = key.Side()
		}
		if got := key.Of(api.Position{Side: int8(n)}); got != want {
			t.Errorf("the turn of %d: %x", n, got)
		}
	}
}

// opening is some pieces on the board, and some in hand.
func opening() api.Position {
	var p api.Position
	p.Board[44], p.Board[36], p.Board[60], p.Board[56] = api.King, api.King+white, api.Pawn, api.Pawn+white
	p.Hands[0][api.Gold], p.Hands[1][api.Rook] = 2, 1
	return p
}

func TestPositionsThatDifferInOneThing(t *testing.T) { // P6.2: a piece, a square, a hand, the turn
	first := opening()
	list := []api.Position{first}
	change := func(do func(p *api.Position)) {
		p := first
		do(&p)
		list = append(list, p)
	}
	for x := range 2 * white {
		if x != api.Pawn && (x == 0 || isPiece(x)) {
			change(func(p *api.Position) { p.Board[60] = api.Piece(x) })
		}
	}
	for q, x := range first.Board {
		if x == 0 {
			change(func(p *api.Position) { p.Board[60], p.Board[q] = 0, api.Pawn })
		}
	}
	for side := range 2 {
		for kind := 1; kind <= 7; kind++ {
			for n := range 19 {
				if int8(n) != first.Hands[side][kind] {
					change(func(p *api.Position) { p.Hands[side][kind] = int8(n) })
				}
			}
		}
	}
	change(func(p *api.Position) { p.Hands = [2][8]int8{first.Hands[1], first.Hands[0]} })
	change(func(p *api.Position) { p.Side = api.White })
	seen := map[key.Key]bool{}
	for _, p := range list {
		k := key.Of(p)
		if seen[k] {
			t.Errorf("%v has the key of another one", p)
		}
		seen[k] = true
	}
}

func TestOneReachedInTwoWays(t *testing.T) { // P6.2: by moves in another order, and by what they count alone
	a := opening()
	k := key.Of(a)
	a.Board[60], a.Board[59] = 0, api.Pawn
	a.Board[56], a.Board[57] = 0, api.Pawn+white
	a.Board[40], a.Hands[0][api.Gold] = api.Gold, 1
	a.Side = api.White
	b := opening()
	b.Side = api.White
	b.Board[40], b.Hands[0][api.Gold] = api.Gold, 1
	b.Board[56], b.Board[57] = 0, api.Pawn+white
	b.Board[60], b.Board[59] = 0, api.Pawn
	if key.Of(a) != key.Of(b) {
		t.Errorf("%x and %x", key.Of(a), key.Of(b))
	}
	k ^= key.Side() ^ key.Hand(0, api.Gold, 1) ^ key.Hand(0, api.Gold, 2) ^ key.Piece(40, api.Gold)
	k ^= key.Piece(57, api.Pawn+white) ^ key.Piece(56, api.Pawn+white) ^ key.Piece(59, api.Pawn) ^ key.Piece(60, api.Pawn)
	if k != key.Of(a) {
		t.Errorf("from move to move %x, else %x", k, key.Of(a))
	}
}

func TestKeysStayTheSame(t *testing.T) { // P2: there is no chance in them
	if !slices.Equal(all(), all()) {
		t.Error("asked twice, keys are other ones")
	}
}
