package step_test

import (
	"cmp"
	"math"
	"slices"
	"testing"

	"kakugyo/api"
	"kakugyo/set"
	"kakugyo/step"
)

// pictures are Black's steps from o, as the chapter tells them: a row is a rank, ahead is up.
var pictures = map[int][5]string{
	api.Pawn: {
		".....",
		"..x..",
		"..o..",
		".....",
		"....."},
	api.Knight: {
		".x.x.",
		".....",
		"..o..",
		".....",
		"....."},
	api.Silver: {
		".....",
		".xxx.",
		"..o..",
		".x.x.",
		"....."},
	api.Gold:     gold,
	api.Pawn + 8: gold, api.Lance + 8: gold, api.Knight + 8: gold, api.Silver + 8: gold,
	api.King: {
		".....",
		".xxx.",
		".xox.",
		".xxx.",
		"....."},
	api.Bishop + 8: {
		".....",
		"..x..",
		".xox.",
		"..x..",
		"....."},
	api.Rook + 8: {
		".....",
		".x.x.",
		"..o..",
		".x.x.",
		"....."},
}

var gold = [5]string{
	".....",
	".xxx.",
	".xox.",
	"..x..",
	"....."}

// wrong is what is no square: the nearest ones, those that a shift, a product or fewer bits would wrap round to one, and the farthest.
var wrong = []int{-1, -2, -9, -10, -81, 81, 82, 89, 90, 99, 255, 256, 256 + 40, 1<<16 + 40, 1 << 32, 1<<32 + 40, -1<<32 + 40, math.MinInt, math.MinInt + 40, math.MaxInt}

// wrongSides are what is no side.
var wrongSides = []int{-1, -2, 2, 3, 16, 17, 256, 257, 1 << 32, 1<<32 + 1, math.MinInt, math.MinInt + 1, math.MaxInt}

// huge are distances that leave the board wherever one stands, those among them that wrap round near to a square.
var huge = []int{9, -9, 10, 18, -18, 81, -81, 255, 256, -256, 1 << 16, 1<<32 + 1, -1 << 32, 1<<63 - 9, math.MaxInt, math.MaxInt - 1, math.MinInt, math.MinInt + 1, math.MinInt + 8}

func steps(kind int) []step.Dir {
	var list []step.Dir
	for row, text := range pictures[kind] {
		for column, x := range text {
			if x == 'x' {
				list = append(list, step.Dir{File: column - 2, Rank: row - 2})
			}
		}
	}
	return list
}

func sorted(list []step.Dir) []step.Dir {
	list = slices.Clone(list)
	slices.SortFunc(list, func(a, b step.Dir) int {
		return cmp.Or(cmp.Compare(a.File, b.File), cmp.Compare(a.Rank, b.Rank))
	})
	return list
}

// kinds are all numbers that come near to kinds, those that wrap round to one in fewer bits, and the farthest.
func kinds() []int {
	list := []int{1<<16 + 1, 1<<32 + 1, -1<<32 + 1, 1<<32 + 8, math.MinInt, math.MinInt + 1, math.MaxInt, math.MaxInt - 6}
	for n := -300; n <= 300; n++ {
		list = append(list, n)
	}
	return list
}

func TestFrom(t *testing.T) { // P3.1: also over the edges, where nothing goes round
	for q := range api.Squares {
		for file := -10; file <= 10; file++ {
			for rank := -10; rank <= 10; rank++ {
				want := -1
				if f, r := q/9+file, q%9+rank; f >= 0 && f <= 8 && r >= 0 && r <= 8 {
					want = 9*f + r
				}
				if got := (step.Dir{File: file, Rank: rank}).From(q); got != want {
					t.Errorf("{%d %d} From(%d): %d, want %d", file, rank, q, got, want)
				}
			}
		}
	}
}

func TestFromWhatIsNoSquare(t *testing.T) { // P3.1
	for _, q := range wrong {
		for file := -10; file <= 10; file++ {
			for rank := -10; rank <= 10; rank++ {
				if got := (step.Dir{File: file, Rank: rank}).From(q); got != -1 {
					t.Errorf("{%d %d} From(%d): %d", file, rank, q, got)
				}
			}
		}
	}
}

func TestFromTooFar(t *testing.T) { // P1, P3.1
	for _, far := range huge {
		for _, other := range append([]int{0, 1, -1, 8, -8}, huge...) {
			for _, d := range []step.Dir{{File: far, Rank: other}, {File: other, Rank: far}} {
				for q := range api.Squares {
					if got := d.From(q); got != -1 {
						t.Errorf("%v From(%d): %d", d, q, got)
					}
				}
				for _, q := range wrong {
					if got := d.From(q); got != -1 {
						t.Errorf("%v From(%d): %d", d, q, got)
					}
				}
			}
		}
	}
}

func TestTurn(t *testing.T) { // P3.1
	numbers := []int{0, 1, -1, 2, -2, 8, -8, 9, math.MaxInt, -math.MaxInt}
	for _, file := range numbers {
		for _, rank := range numbers {
			d := step.Dir{File: file, Rank: rank}
			if got := d.Turn(api.White); got != (step.Dir{File: -file, Rank: -rank}) {
				t.Errorf("%v for White: %v", d, got)
			}
			for _, side := range append([]int{api.Black}, wrongSides...) {
				if got := d.Turn(side); got != d {
					t.Errorf("%v Turn(%d): %v", d, side, got)
				}
			}
		}
	}
}

func TestTurnOfTheLeastNumbers(t *testing.T) { // P1: they have no number with the other sign
	for _, d := range []step.Dir{{File: math.MinInt}, {Rank: math.MinInt}, {File: math.MinInt, Rank: math.MinInt}} {
		if got := d.Turn(api.White).From(40); got != -1 {
			t.Errorf("%v turned, From(40): %d", d, got)
		}
		if got := d.Turn(api.Black); got != d {
			t.Errorf("%v for Black: %v", d, got)
		}
	}
}

func TestDirs(t *testing.T) { // P3.1: kinds that slide only, 13, and what is no kind step nowhere
	for _, kind := range kinds() {
		if got, want := sorted(step.Dirs(kind)), sorted(steps(kind)); !slices.Equal(got, want) {
			t.Errorf("Dirs(%d): %v, want %v", kind, got, want)
		}
	}
}

// reached is told by each two squares' distance, for White looked at from the other side.
func reached(p api.Piece, q int) set.Set {
	var s set.Set
	kind, sign := int(p), 1
	if kind > 16 {
		kind, sign = kind-16, -1
	}
	for to := range api.Squares {
		d := step.Dir{File: sign * (to/9 - q/9), Rank: sign * (to%9 - q%9)}
		if slices.Contains(steps(kind), d) {
			s = s.With(to)
		}
	}
	return s
}

func TestOf(t *testing.T) { // P3.2: of all numbers that a piece may be, on all squares
	for n := math.MinInt8; n <= math.MaxInt8; n++ {
		p := api.Piece(n)
		for q := range api.Squares {
			if got, want := step.Of(p, q), reached(p, q); got != want {
				t.Errorf("Of(%d, %d): %v, want %v", p, q, got.Squares(), want.Squares())
			}
		}
		for _, q := range wrong {
			if got := step.Of(p, q); got != (set.Set{}) {
				t.Errorf("Of(%d, %d), which is no square: %v", p, q, got.Squares())
			}
		}
	}
}

func TestOfAtTheEdges(t *testing.T) { // P3.2: some told by hand
	const white = 16
	rows := []struct {
		p    api.Piece
		q    int
		want []int
	}{
		{api.Pawn, 9, nil},
		{api.Pawn + white, 8, nil},
		{api.Pawn + white, 80, nil},
		{api.Knight, 2, []int{9}},
		{api.Knight, 80, []int{69}},
		{api.Knight, 37, nil},
		{api.Knight + white, 6, []int{17}},
		{api.Knight + white, 78, []int{71}},
		{api.Knight + white, 43, nil},
		{api.Silver, 0, []int{10}},
		{api.Silver + white, 0, []int{1, 10}},
		{api.Silver, 80, []int{79, 70}},
		{api.Gold, 8, []int{7, 16, 17}},
		{api.Gold + white, 8, []int{7, 17}},
		{api.Gold, 72, []int{63, 73}},
		{api.King, 80, []int{79, 71, 70}},
		{api.King + white, 72, []int{73, 63, 64}},
		{api.King, 17, []int{7, 8, 16, 25, 26}},
		{api.King, 18, []int{9, 10, 19, 27, 28}},
		{api.Bishop + api.Promoted, 8, []int{7, 17}},
		{api.Rook + api.Promoted, 8, []int{16}},
		{api.Lance, 40, nil},
		{api.Bishop, 40, nil},
		{api.Rook + white, 40, nil},
	}
	for _, r := range rows {
		if got := step.Of(r.p, r.q); got != set.Of(r.want...) {
			t.Errorf("Of(%d, %d): %v, want %v", r.p, r.q, got.Squares(), r.want)
		}
	}
}

func TestFarAndZone(t *testing.T) { // P3.3
	var zones [2]set.Set
	for q := range api.Squares {
		black, white := q%9, 8-q%9
		if step.Far(api.Black, q) != black || step.Far(api.White, q) != white {
			t.Errorf("Far to %d: %d, %d, want %d, %d", q, step.Far(api.Black, q), step.Far(api.White, q), black, white)
		}
		if black <= 2 {
			zones[api.Black] = zones[api.Black].With(q)
		}
		if white <= 2 {
			zones[api.White] = zones[api.White].With(q)
		}
	}
	for side, want := range zones {
		if got := step.Zone(side); got != want || got.Count() != 27 {
			t.Errorf("Zone(%d): %v", side, got.Squares())
		}
	}
}

func TestFarAndZoneOfWrongNumbers(t *testing.T) { // P3.3
	for _, side := range wrongSides {
		for q := range api.Squares {
			if got := step.Far(side, q); got != -1 {
				t.Errorf("Far(%d, %d), which is no side: %d", side, q, got)
			}
		}
		if got := step.Zone(side); got != (set.Set{}) {
			t.Errorf("Zone(%d), which is no side: %v", side, got.Squares())
		}
	}
	for _, side := range append([]int{api.Black, api.White}, wrongSides...) {
		for _, q := range wrong {
			if got := step.Far(side, q); got != -1 {
				t.Errorf("Far(%d, %d), which is no square: %d", side, q, got)
			}
		}
	}
}

func TestDead(t *testing.T) { // P3.4
	for n := math.MinInt8; n <= math.MaxInt8; n++ {
		p := api.Piece(n)
		for q := range api.Squares {
			want := false
			switch n {
			case 1, 2:
				want = q%9 == 0
			case 3:
				want = q%9 <= 1
			case 16 + 1, 16 + 2:
				want = q%9 == 8
			case 16 + 3:
				want = q%9 >= 7
			}
			if got := step.Dead(p, q); got != want {
				t.Errorf("Dead(%d, %d): %v", p, q, got)
			}
		}
		for _, q := range wrong {
			if step.Dead(p, q) {
				t.Errorf("Dead(%d, %d), which is no square", p, q)
			}
		}
	}
}

func TestExample(t *testing.T) { // the chapter's
	if step.Of(api.Pawn, 40) != set.Of(39) || step.Of(api.Pawn+16, 40) != set.Of(41) {
		t.Errorf("the pawns' steps: %v, %v", step.Of(api.Pawn, 40).Squares(), step.Of(api.Pawn+16, 40).Squares())
	}
}

func TestDirsAreNewMemory(t *testing.T) { // P2: with their spare room
	for kind := range 16 {
		first, second := step.Dirs(kind), step.Dirs(kind)
		room := first[:cap(first)]
		for i := range room {
			room[i] = step.Dir{File: -7, Rank: 7}
		}
		for _, list := range [][]step.Dir{second, step.Dirs(kind)} {
			if !slices.Equal(sorted(list), sorted(steps(kind))) {
				t.Errorf("Dirs(%d) is shared: %v", kind, list)
			}
		}
		for q := range api.Squares {
			if step.Of(api.Piece(kind), q) != reached(api.Piece(kind), q) {
				t.Errorf("Of(%d, %d) hangs on what was done to Dirs", kind, q)
			}
		}
	}
}

func TestWaysStayAsTheyAre(t *testing.T) { // P2
	d := step.Dir{File: 1, Rank: -2}
	d.Turn(api.White)
	d.From(40)
	d.From(-1)
	if d != (step.Dir{File: 1, Rank: -2}) {
		t.Errorf("changed: %v", d)
	}
}
