package attack_test

import (
	"maps"
	"math"
	"testing"

	"kakugyo/api"
	"kakugyo/attack"
	"kakugyo/board"
	"kakugyo/ray"
	"kakugyo/set"
)

const white = 16

// wrong is what is no square: the nearest ones, those that a product or fewer bits would wrap round to one, and the farthest.
var wrong = []int{-1, -2, -9, -10, -81, 81, 82, 89, 90, 99, 127, 128, 255, 256, 256 + 40, 1<<16 + 40, 1 << 32, 1<<32 + 40, -1<<32 + 40, math.MinInt, math.MinInt + 40, math.MaxInt}

// wrongSides are what is no side.
var wrongSides = []int{-1, -2, 2, 3, 8, 15, 16, 17, 255, 256, 257, 1<<16 + 1, 1 << 32, 1<<32 + 1, -1 << 32, -1<<32 + 1, math.MinInt, math.MinInt + 1, math.MinInt + 2, math.MaxInt, math.MaxInt - 1}

// dice are numbers without a pattern, the same ones in each run.
type dice uint64

func (d *dice) below(n int) int {
	*d = *d*6364136223846793005 + 1442695040888963407
	return int(uint64(*d) >> 33 % uint64(n))
}

// sideOf is told by the number alone; -1: it is no piece.
func sideOf(x api.Piece) int {
	switch {
	case x >= 1 && x <= 15 && x != 13:
		return 0
	case x >= 17 && x <= 31 && x != 29:
		return 1
	}
	return -1
}

// from is P8.1 told piece by piece: where a side's pieces stand that go to a square.
func from(p api.Position, q, side int, taken set.Set) set.Set {
	var s set.Set
	for at, x := range p.Board {
		if sideOf(x) == side && sideOf(x) >= 0 && ray.Of(x, at, taken).Has(q) {
			s = s.With(at)
		}
	}
	return s
}

// taken is where pieces stand.
func taken(p api.Position) set.Set {
	var s set.Set
	for at, x := range p.Board {
		if sideOf(x) >= 0 {
			s = s.With(at)
		}
	}
	return s
}

// attacked is P8.1's All told square by square.
func attacked(p api.Position, side int) set.Set {
	var s set.Set
	for q := range api.Squares {
		if !from(p, q, side, taken(p)).Empty() {
			s = s.With(q)
		}
	}
	return s
}

// king is the least square with a king of a side; -1: there is none.
func king(p api.Position, side int) int {
	for at, x := range p.Board {
		if sideOf(x) == side && x%white == api.King {
			return at
		}
	}
	return -1
}

// checkers is P8.2 told piece by piece.
func checkers(p api.Position, side int) set.Set { return from(p, king(p, side), 1-side, taken(p)) }

// pinned is P8.3 told by taking the pieces away, one by one.
func pinned(p api.Position, side int) map[int]set.Set {
	pins := map[int]set.Set{}
	k := king(p, side)
	for at, x := range p.Board {
		if sideOf(x) != side || at == k {
			continue
		}
		without := p
		without.Board[at] = 0
		more := checkers(without, side).Minus(checkers(p, side))
		if !more.Empty() {
			pins[at] = ray.Between(k, more.First()).With(more.First())
		}
	}
	return pins
}

// put is a position with pieces on squares.
func put(pieces map[int]api.Piece) api.Position {
	var p api.Position
	for q, x := range pieces {
		p.Board[q] = x
	}
	return p
}

// raw is a position of any numbers.
func raw(d *dice) api.Position {
	var p api.Position
	full := 1 + d.below(10)
	for q := range p.Board {
		if d.below(10) < full {
			p.Board[q] = api.Piece(d.below(34))
		}
		if d.below(20) == 0 {
			p.Board[q] = api.Piece(d.below(256))
		}
	}
	for side := range p.Hands {
		for kind := range p.Hands[side] {
			p.Hands[side][kind] = int8(d.below(256))
		}
	}
	p.Side = int8(d.below(256))
	return p
}

// proper is a position that passes layer 5's Check, with many pieces that slide, some of them behind a piece that a king has ahead of it, and either king in check now and then.
func proper(d *dice) api.Position {
	const kinds = "\x01\x02\x03\x04\x05\x06\x07\x09\x0a\x0b\x0c\x0e\x0f"
	var p api.Position
	p.Side = int8(d.below(2))
	black := d.below(api.Squares)
	p.Board[black] = api.King
	p.Board[(black+1+d.below(api.Squares-1))%api.Squares] = api.King + white
	for range d.below(6) {
		side := d.below(2)
		way := path(king(p, side), d.below(3)-1, d.below(3)-1)
		if len(way) < 2 {
			continue
		}
		i := d.below(len(way) - 1)
		slider := api.Piece("\x02\x06\x07\x0e\x0f"[d.below(5)])
		p = with(p, way[i], api.Piece(kinds[d.below(len(kinds))])+api.Piece(white*side))
		p = with(p, way[i+1+d.below(len(way)-i-1)], slider+api.Piece(white*(1-side)))
	}
	for range d.below(16) {
		p = with(p, d.below(api.Squares), api.Piece(kinds[d.below(len(kinds))])+api.Piece(white*d.below(2)))
	}
	return p
}

// with is the position with one piece more, if that can be.
func with(p api.Position, q int, x api.Piece) api.Position {
	next := p
	next.Board[q] = x
	if p.Board[q] == 0 && board.Check(next) == api.OK {
		return next
	}
	return p
}

// path is the squares from one on to the edge, so many files and ranks on each; none of the zero way.
func path(q, files, ranks int) []int {
	var list []int
	for n := 1; n <= 8 && (files != 0 || ranks != 0); n++ {
		file, rank := q/9+n*files, q%9+n*ranks
		if file < 0 || file > 8 || rank < 0 || rank > 8 {
			break
		}
		list = append(list, 9*file+rank)
	}
	return list
}

// some are sets of squares that may be taken, whatever stands on a board.
func some(d *dice, p api.Position) []set.Set {
	var s set.Set
	for range d.below(60) {
		s = s.With(d.below(api.Squares))
	}
	return []set.Set{{}, set.All(), taken(p), taken(p).Without(d.below(api.Squares)), taken(p).With(d.below(api.Squares)), s, s.Not()}
}

func TestOn(t *testing.T) { // P8.1: boards of any pieces, several kings and none among them, and any squares taken
	d := dice(1)
	for n := range 400 {
		p := raw(&d)
		if n%2 == 0 {
			p = proper(&d)
		}
		b := board.New(p)
		for _, full := range some(&d, p) {
			for q := range api.Squares {
				for side := range 2 {
					if got, want := attack.On(b, q, side, full), from(p, q, side, full); got != want {
						t.Fatalf("On(%v, %d, %d, %v): %v, want %v", p.Board, q, side, full.Squares(), got.Squares(), want.Squares())
					}
				}
			}
		}
	}
}

func TestOnOfEachPieceAlone(t *testing.T) { // P8.1: each piece from each square to each, with and without what is taken between, on it, and where it stands
	for n := range 34 {
		x := api.Piece(n)
		for at := range api.Squares {
			p := put(map[int]api.Piece{at: x})
			b := board.New(p)
			for q := range api.Squares {
				way := ray.Between(at, q)
				for _, s := range []set.Set{{}, way, way.Not(), set.Of(way.First()), set.Of(way.Last()), set.Of(at, q), set.All()} {
					for side := range 2 {
						if got, want := attack.On(b, q, side, s), from(p, q, side, s); got != want {
							t.Fatalf("%d on %d: On(%d, %d, %v): %v, want %v", x, at, q, side, s.Squares(), got.Squares(), want.Squares())
						}
					}
				}
			}
		}
	}
}

func TestOnByHand(t *testing.T) { // P8.1: what is taken counts, not what stands there; whose piece stands on the square doesn't count
	rows := []struct {
		name   string
		pieces map[int]api.Piece
		q      int
		side   int
		taken  []int
		want   []int
	}{
		{"a lance ahead", map[int]api.Piece{44: api.Lance}, 40, 0, nil, []int{44}},
		{"a lance, taken between", map[int]api.Piece{44: api.Lance}, 40, 0, []int{42}, nil},
		{"a lance, taken behind and at both ends", map[int]api.Piece{44: api.Lance}, 40, 0, []int{39, 40, 44}, []int{44}},
		{"a lance the wrong way", map[int]api.Piece{36: api.Lance}, 40, 0, nil, nil},
		{"White's lance", map[int]api.Piece{36: api.Lance + white}, 40, 1, nil, []int{36}},
		{"White's lance the wrong way", map[int]api.Piece{44: api.Lance + white}, 40, 1, nil, nil},
		{"a piece that stands between, but isn't taken", map[int]api.Piece{44: api.Lance, 42: api.Gold + white}, 40, 0, nil, []int{44}},
		{"two on one way", map[int]api.Piece{44: api.Lance, 42: api.Rook}, 40, 0, []int{42, 44}, []int{42}},
		{"two on one way, the near one's square free", map[int]api.Piece{44: api.Lance, 42: api.Rook}, 40, 0, []int{44}, []int{42, 44}},
		{"two from both ends", map[int]api.Piece{44: api.Rook, 36: api.Rook}, 40, 0, []int{36, 44}, []int{36, 44}},
		{"its own piece there", map[int]api.Piece{42: api.Rook, 40: api.Gold}, 40, 0, []int{40, 42}, []int{42}},
		{"a knight over what is taken", map[int]api.Piece{33: api.Knight}, 40, 0, []int{31, 32, 39, 41, 42}, []int{33}},
		{"a knight the wrong way", map[int]api.Piece{29: api.Knight}, 40, 0, nil, nil},
		{"White's knight", map[int]api.Piece{29: api.Knight + white}, 40, 1, nil, []int{29}},
		{"pawns of both", map[int]api.Piece{41: api.Pawn, 39: api.Pawn + white}, 40, 0, nil, []int{41}},
		{"pawns of both, White's", map[int]api.Piece{41: api.Pawn, 39: api.Pawn + white}, 40, 1, nil, []int{39}},
		{"pawns that have gone by", map[int]api.Piece{39: api.Pawn, 41: api.Pawn + white}, 40, 0, nil, nil},
		{"a king", map[int]api.Piece{30: api.King}, 40, 0, nil, []int{30}},
		{"two kings", map[int]api.Piece{30: api.King, 50: api.King}, 40, 0, nil, []int{30, 50}},
		{"promoted ones", map[int]api.Piece{41: api.Bishop + 8, 50: api.Rook + 8, 80: api.Bishop + 8, 4: api.Rook + 8}, 40, 0, nil, []int{4, 41, 50, 80}},
		{"the other side's", map[int]api.Piece{41: api.Gold}, 40, 1, nil, nil},
		{"nothing", nil, 40, 0, nil, nil},
		{"what stands there itself", map[int]api.Piece{40: api.King}, 40, 0, nil, nil},
	}
	for _, r := range rows {
		b := board.New(put(r.pieces))
		if got := attack.On(b, r.q, r.side, set.Of(r.taken...)); got != set.Of(r.want...) {
			t.Errorf("%s: %v, want %v", r.name, got.Squares(), r.want)
		}
	}
}

func TestAll(t *testing.T) { // P8.1
	d := dice(2)
	for n := range 400 {
		p := raw(&d)
		if n%2 == 0 {
			p = proper(&d)
		}
		b := board.New(p)
		for side := range 2 {
			if got, want := attack.All(b, side), attacked(p, side); got != want {
				t.Fatalf("All(%v, %d): %v, want %v", p.Board, side, got.Squares(), want.Squares())
			}
		}
	}
}

func TestAllByHand(t *testing.T) { // P8.1: up to what is taken, and with it, whoever stands there
	p := put(map[int]api.Piece{44: api.Lance, 42: api.Pawn, 36: api.Rook + white, 39: api.Gold + white})
	b := board.New(p)
	if got, want := attack.All(b, 0), set.Of(43, 42, 41); got != want {
		t.Errorf("Black's: %v", got.Squares())
	}
	rook := set.Of(37, 38, 39, 0, 9, 18, 27, 45, 54, 63, 72)
	gold := set.Of(40, 38, 30, 48, 31, 49)
	if got, want := attack.All(b, 1), rook.Or(gold); got != want {
		t.Errorf("White's: %v, want %v", got.Squares(), want.Squares())
	}
	if got := attack.All(board.New(api.Position{}), 0); !got.Empty() {
		t.Errorf("of nothing: %v", got.Squares())
	}
}

func TestWhatIsNoSquareAndNoSide(t *testing.T) { // P8.1, P8.2, P1
	d := dice(3)
	for range 20 {
		p := raw(&d)
		b := board.New(p)
		for _, s := range some(&d, p) {
			for _, q := range wrong {
				for side := range 2 {
					if got := attack.On(b, q, side, s); !got.Empty() {
						t.Errorf("On(%d, %d), which is no square: %v", q, side, got.Squares())
					}
				}
			}
			for _, side := range wrongSides {
				for _, q := range append([]int{0, 8, 40, 62, 63, 80}, wrong...) {
					if got := attack.On(b, q, side, s); !got.Empty() {
						t.Errorf("On(%d, %d), which is no side: %v", q, side, got.Squares())
					}
				}
			}
		}
		for _, side := range wrongSides {
			if got := attack.All(b, side); !got.Empty() {
				t.Errorf("All(%d): %v", side, got.Squares())
			}
			if got := attack.Checkers(b, side); !got.Empty() || attack.InCheck(b, side) || len(attack.Pinned(b, side)) > 0 {
				t.Errorf("Checkers(%d): %v, InCheck %v, Pinned %v", side, got.Squares(), attack.InCheck(b, side), attack.Pinned(b, side))
			}
		}
	}
}

func TestCheckers(t *testing.T) { // P8.2: boards of any pieces; without a king, with one, and with several, of which the least counts
	d := dice(4)
	seen := map[int]int{}
	kings := map[int]int{}
	for n := range 6000 {
		p := proper(&d)
		if n%3 == 0 {
			p = raw(&d)
		}
		b := board.New(p)
		for side := range 2 {
			got, want := attack.Checkers(b, side), checkers(p, side)
			if got != want || attack.InCheck(b, side) != !want.Empty() {
				t.Fatalf("Checkers(%v, %d): %v, want %v; InCheck %v", p.Board, side, got.Squares(), want.Squares(), attack.InCheck(b, side))
			}
			seen[min(got.Count(), 3)]++
			kings[min(b.Of(side, api.King).Count(), 2)]++
		}
	}
	for n := range 3 {
		if seen[n] < 100 || kings[n] < 100 {
			t.Errorf("%d checkers %d times only, %d kings %d times only", n, seen[n], n, kings[n])
		}
	}
}

func TestCheckersByHand(t *testing.T) { // P8.2: on either side's turn
	rows := []struct {
		name   string
		pieces map[int]api.Piece
		black  []int
		white  []int
	}{
		{"kings alone", map[int]api.Piece{44: api.King, 36: api.King + white}, nil, nil},
		{"the chapter's example", map[int]api.Piece{40: api.King + white, 44: api.Rook}, nil, []int{44}},
		{"no king", map[int]api.Piece{40: api.Gold + white, 44: api.Rook, 41: api.Gold}, nil, nil},
		{"one's own piece", map[int]api.Piece{40: api.King, 44: api.Rook}, nil, nil},
		{"something between", map[int]api.Piece{40: api.King + white, 44: api.Rook, 42: api.Pawn}, nil, nil},
		{"the other side's between", map[int]api.Piece{40: api.King + white, 44: api.Rook, 42: api.Pawn + white}, nil, nil},
		{"two at once", map[int]api.Piece{40: api.King + white, 44: api.Rook, 33: api.Knight}, nil, []int{33, 44}},
		{"two on one way", map[int]api.Piece{40: api.King + white, 44: api.Lance, 43: api.Rook}, nil, []int{43}},
		{"two sliders from both ends", map[int]api.Piece{40: api.King, 44: api.Rook + white, 36: api.Lance + white}, []int{36, 44}, nil},
		{"a pawn", map[int]api.Piece{40: api.King, 39: api.Pawn + white}, []int{39}, nil},
		{"kings side by side", map[int]api.Piece{40: api.King, 41: api.King + white}, []int{41}, []int{40}},
		{"both in check", map[int]api.Piece{44: api.King, 36: api.King + white, 37: api.Gold, 43: api.Gold + white}, []int{43}, []int{37}},
		{"the second king", map[int]api.Piece{0: api.King, 40: api.King, 39: api.Pawn + white}, nil, nil},
		{"the first king", map[int]api.Piece{40: api.King, 80: api.King, 39: api.Pawn + white}, []int{39}, nil},
	}
	for _, r := range rows {
		for side := range int8(2) {
			p := put(r.pieces)
			p.Side = side
			b := board.New(p)
			if got := attack.Checkers(b, 0); got != set.Of(r.black...) || attack.InCheck(b, 0) != (len(r.black) > 0) {
				t.Errorf("%s, the turn of %d: Black: %v, want %v", r.name, side, got.Squares(), r.black)
			}
			if got := attack.Checkers(b, 1); got != set.Of(r.white...) || attack.InCheck(b, 1) != (len(r.white) > 0) {
				t.Errorf("%s, the turn of %d: White: %v, want %v", r.name, side, got.Squares(), r.white)
			}
		}
	}
}

func TestPinned(t *testing.T) { // P8.3: positions that pass layer 5's Check
	d := dice(5)
	seen := map[int]int{}
	inCheck := 0
	for range 12000 {
		p := proper(&d)
		b := board.New(p)
		for side := range 2 {
			got, want := attack.Pinned(b, side), pinned(p, side)
			if !maps.Equal(got, want) {
				t.Fatalf("Pinned(%v, %d): %v, want %v", p.Board, side, got, want)
			}
			seen[len(got)]++
			if len(got) > 0 && attack.InCheck(b, side) {
				inCheck++
			}
		}
	}
	if seen[0] < 1000 || seen[1] < 1000 || seen[2] < 100 || seen[3] < 5 || inCheck < 100 {
		t.Errorf("so many pinned: %v, in check with it: %d times", seen, inCheck)
	}
}

// row is a position, and which of White's pieces are pinned, by which of Black's.
type row struct {
	name   string
	pieces map[int]api.Piece
	want   map[int][]int
}

// pins have White's king on 36, as far ahead as can be, and Black's elsewhere.
var pins = []row{
	{"a lance behind a gold", map[int]api.Piece{38: api.Gold + white, 40: api.Lance}, map[int][]int{38: {37, 38, 39, 40}}},
	{"side by side", map[int]api.Piece{37: api.Gold + white, 38: api.Lance}, map[int][]int{37: {37, 38}}},
	{"a pinned piece that could take", map[int]api.Piece{37: api.Rook + white, 43: api.Rook}, map[int][]int{37: {37, 38, 39, 40, 41, 42, 43}}},
	{"another of White's beside it", map[int]api.Piece{38: api.Gold + white, 39: api.Pawn + white, 40: api.Lance}, nil},
	{"one of Black's beside it", map[int]api.Piece{38: api.Gold + white, 39: api.Pawn, 40: api.Lance}, nil},
	{"one of Black's ahead of it", map[int]api.Piece{37: api.Pawn + 8, 38: api.Gold + white, 40: api.Lance}, nil},
	{"one of Black's alone between", map[int]api.Piece{38: api.Gold, 40: api.Lance}, nil},
	{"two of Black's behind it", map[int]api.Piece{38: api.Gold + white, 39: api.Lance, 40: api.Rook}, map[int][]int{38: {37, 38, 39}}},
	{"two that slide, the near one not so", map[int]api.Piece{38: api.Gold + white, 39: api.Bishop, 40: api.Rook}, nil},
	{"the far one on the way", map[int]api.Piece{37: api.Gold + white, 38: api.Pawn, 39: api.Lance}, nil},
	{"nothing between: in check, not pinned", map[int]api.Piece{40: api.Lance}, nil},
	{"in check and pinned", map[int]api.Piece{40: api.Lance, 27: api.Silver + white, 0: api.Rook}, map[int][]int{27: {27, 18, 9, 0}}},
	{"pinned by two, on two ways", map[int]api.Piece{27: api.Silver + white, 0: api.Rook, 46: api.Silver + white, 76: api.Bishop}, map[int][]int{27: {27, 18, 9, 0}, 46: {46, 56, 66, 76}}},
	{"a bishop on a straight way", map[int]api.Piece{38: api.Gold + white, 40: api.Bishop}, nil},
	{"a rook aslant", map[int]api.Piece{46: api.Gold + white, 56: api.Rook}, nil},
	{"promoted ones", map[int]api.Piece{46: api.Gold + white, 56: api.Bishop + 8, 27: api.Pawn + 8 + white, 18: api.Rook + 8}, map[int][]int{46: {46, 56}, 27: {27, 18}}},
	{"a promoted bishop two ahead only steps", map[int]api.Piece{37: api.Gold + white, 38: api.Bishop + 8}, nil},
	{"a promoted lance slides no more", map[int]api.Piece{38: api.Gold + white, 39: api.Lance + 8}, nil},
	{"a lance aslant", map[int]api.Piece{46: api.Gold + white, 56: api.Lance}, nil},
	{"White's own rook", map[int]api.Piece{38: api.Gold + white, 40: api.Rook + white}, nil},
	{"a knight, whatever stands there", map[int]api.Piece{37: api.Gold + white, 28: api.Gold + white, 29: api.Knight}, nil},
	{"on the king's rank, not between", map[int]api.Piece{45: api.Gold + white, 0: api.Rook}, nil},
	{"Black's king on the way", map[int]api.Piece{38: api.Gold + white, 40: api.King, 41: api.Lance}, nil},
}

// turned is a position seen from the other side.
func turned(p api.Position) api.Position {
	var other api.Position
	for q, x := range p.Board {
		if side := sideOf(x); side >= 0 {
			other.Board[80-q] = x%white + api.Piece(white*(1-side))
		}
	}
	other.Side = 1 - p.Side
	return other
}

func TestPinnedByHand(t *testing.T) { // P8.3: of either side
	for _, r := range pins {
		p := put(r.pieces)
		p.Board[36] = api.King + white
		if king(p, 0) < 0 {
			p.Board[8] = api.King
		}
		want, across := map[int]set.Set{}, map[int]set.Set{}
		for q, may := range r.want {
			want[q] = set.Of(may...)
			for _, a := range may {
				across[80-q] = across[80-q].With(80 - a)
			}
		}
		if e := board.Check(p); e != api.OK {
			t.Errorf("%s: the position is no good: %v", r.name, e)
		}
		if got := attack.Pinned(board.New(p), 1); !maps.Equal(got, want) {
			t.Errorf("%s: %v, want %v", r.name, got, want)
		}
		if got := attack.Pinned(board.New(turned(p)), 0); !maps.Equal(got, across) {
			t.Errorf("%s, Black's: %v, want %v", r.name, got, across)
		}
	}
}

// spoils are positions that layer 5 refuses, with White's king on 40 and Black's rook on 44: White is in check.
var spoils = []struct {
	want api.Errno
	do   func(p *api.Position)
}{
	{api.ErrCheck, func(p *api.Position) {}},
	{api.ErrRange, func(p *api.Position) { p.Side = 2 }},
	{api.ErrRange, func(p *api.Position) { p.Side = -1 }},
	{api.ErrRange, func(p *api.Position) { p.Side = math.MinInt8 }},
	{api.ErrPiece, func(p *api.Position) { p.Board[3] = 13 }},
	{api.ErrPiece, func(p *api.Position) { p.Hands[0][1] = -1 }},
	{api.ErrKings, func(p *api.Position) { p.Board[8] = 0 }},
	{api.ErrKings, func(p *api.Position) { p.Board[3] = api.King + white }},
	{api.ErrCount, func(p *api.Position) { p.Hands[1][api.Rook] = 2 }},
	{api.ErrDead, func(p *api.Position) { p.Board[0] = api.Pawn }},
	{api.ErrNifu, func(p *api.Position) { p.Board[3], p.Board[5] = api.Pawn, api.Pawn }},
}

func TestCheckTellsLayer5First(t *testing.T) { // P8.4
	for i, r := range spoils {
		p := put(map[int]api.Piece{40: api.King + white, 44: api.Rook, 8: api.King})
		r.do(&p)
		if got := attack.Check(p); got != r.want {
			t.Errorf("%d: %v, want %v", i, got, r.want)
		}
	}
}

func TestCheckByHand(t *testing.T) { // P8.4: a king in check on the other side's turn, and on its own
	rows := []struct {
		name         string
		pieces       map[int]api.Piece
		black, white api.Errno // on whose turn
	}{
		{"none in check", map[int]api.Piece{40: api.King + white, 8: api.King}, api.OK, api.OK},
		{"White in check", map[int]api.Piece{40: api.King + white, 44: api.Rook, 8: api.King}, api.ErrCheck, api.OK},
		{"Black in check", map[int]api.Piece{40: api.King, 44: api.Rook + white, 8: api.King + white}, api.OK, api.ErrCheck},
		{"both in check", map[int]api.Piece{40: api.King, 44: api.Rook + white, 8: api.King + white, 4: api.Lance + white, 7: api.Gold}, api.ErrCheck, api.ErrCheck},
		{"held off", map[int]api.Piece{40: api.King + white, 44: api.Rook, 42: api.Pawn + white, 8: api.King}, api.OK, api.OK},
		{"two kings side by side", map[int]api.Piece{40: api.King + white, 41: api.King}, api.ErrCheck, api.ErrCheck},
	}
	for _, r := range rows {
		p := put(r.pieces)
		if got := attack.Check(p); got != r.black {
			t.Errorf("%s, Black's turn: %v, want %v", r.name, got, r.black)
		}
		p.Side = api.White
		if got := attack.Check(p); got != r.white {
			t.Errorf("%s, White's turn: %v, want %v", r.name, got, r.white)
		}
	}
	if got := attack.Check(board.Start()); got != api.OK {
		t.Errorf("the Start: %v", got)
	}
	if got := attack.Check(api.Position{}); got != api.ErrKings {
		t.Errorf("nothing: %v", got)
	}
}

func TestCheckOfAnything(t *testing.T) { // P8.4, P1
	d := dice(6)
	seen := map[api.Errno]int{}
	for n := range 12000 {
		p := proper(&d)
		switch n % 8 {
		case 0:
			p = raw(&d)
		case 1:
			p.Side = int8(d.below(256))
		case 2:
			p.Board[d.below(api.Squares)] = api.Piece(d.below(32))
		case 3:
			p.Hands[d.below(2)][d.below(8)] = int8(d.below(256))
		}
		want := board.Check(p)
		if want == api.OK && !checkers(p, 1-int(p.Side)).Empty() {
			want = api.ErrCheck
		}
		got := attack.Check(p)
		if got != want {
			t.Fatalf("Check(%v): %v, want %v", p, got, want)
		}
		seen[got]++
	}
	for _, e := range []api.Errno{api.OK, api.ErrCheck, api.ErrRange, api.ErrPiece, api.ErrKings, api.ErrCount} {
		if seen[e] < 50 {
			t.Errorf("%v was the answer %d times only", e, seen[e])
		}
	}
}

func TestNoCallPanics(t *testing.T) { // P1: also on raw boards, and with bits that are no squares, of which nothing else is promised
	d := dice(7)
	words := []uint64{0, 1, 1 << 18, 1 << 62, 1 << 63, math.MaxUint64}
	for range 60 {
		p := raw(&d)
		b := board.New(p)
		for _, side := range append([]int{0, 1}, wrongSides...) {
			for _, lo := range words {
				for _, hi := range words {
					for _, q := range []int{-1, 0, 40, 62, 63, 80, 81, math.MinInt, math.MaxInt} {
						attack.On(b, q, side, set.Set{Lo: lo, Hi: hi})
					}
				}
			}
			attack.All(b, side)
			attack.Checkers(b, side)
			attack.InCheck(b, side)
			attack.Pinned(b, side)
		}
		attack.Check(p)
	}
}

func TestBoardsStayAsTheyAre(t *testing.T) { // P2
	d := dice(8)
	for n := range 200 {
		p := proper(&d)
		if n%2 == 0 {
			p = raw(&d)
		}
		b := board.New(p)
		before := *b.Clone()
		for _, side := range append([]int{0, 1}, wrongSides...) {
			for q := range api.Squares {
				attack.On(b, q, side, b.Taken())
			}
			attack.All(b, side)
			attack.Checkers(b, side)
			attack.InCheck(b, side)
			attack.Pinned(b, side)
		}
		if *b != before {
			t.Fatal("what is asked has changed the board")
		}
		kept := p
		attack.Check(p)
		if p != kept {
			t.Fatal("the position is changed")
		}
	}
}

func TestPinnedIsNewMemory(t *testing.T) { // P2: what is done to one answer is told by no other
	b := board.New(put(map[int]api.Piece{36: api.King + white, 38: api.Gold + white, 40: api.Lance, 8: api.King}))
	want := map[int]set.Set{38: set.Of(37, 38, 39, 40)}
	first, second := attack.Pinned(b, 1), attack.Pinned(b, 1)
	first[38], first[3] = set.Set{}, set.All()
	for _, got := range []map[int]set.Set{second, attack.Pinned(b, 1)} {
		if !maps.Equal(got, want) {
			t.Errorf("shared: %v", got)
		}
	}
	none := attack.Pinned(b, 0)
	none[3] = set.All()
	if got := attack.Pinned(b, 0); len(got) > 0 {
		t.Errorf("shared, where there was none: %v", got)
	}
}

func TestAnswersFollowTheBoard(t *testing.T) { // rule 4: nothing is kept of what was asked before
	p := put(map[int]api.Piece{36: api.King + white, 38: api.Gold + white, 40: api.Lance, 8: api.King})
	b := board.New(p)
	if attack.InCheck(b, 1) || len(attack.Pinned(b, 1)) != 1 {
		t.Error("ahead")
	}
	b.Put(38, 0)
	if attack.Checkers(b, 1) != set.Of(40) || len(attack.Pinned(b, 1)) != 0 || !attack.All(b, 0).Has(36) {
		t.Error("the gold taken away")
	}
	b.Put(38, api.Gold+white)
	if attack.InCheck(b, 1) || len(attack.Pinned(b, 1)) != 1 || attack.All(b, 0).Has(36) {
		t.Error("the gold put back")
	}
}
