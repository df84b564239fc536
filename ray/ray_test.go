package ray_test

import (
	"cmp"
	"math"
	"slices"
	"testing"

	"kakugyo/api"
	"kakugyo/ray"
	"kakugyo/set"
	"kakugyo/step"
)

// The ways, as the chapter tells them.
var (
	ahead    = []step.Dir{{File: 0, Rank: -1}}
	aslant   = []step.Dir{{File: 1, Rank: 1}, {File: 1, Rank: -1}, {File: -1, Rank: 1}, {File: -1, Rank: -1}}
	straight = []step.Dir{{File: 1, Rank: 0}, {File: -1, Rank: 0}, {File: 0, Rank: 1}, {File: 0, Rank: -1}}
)

var slides = map[int][]step.Dir{
	api.Lance:  ahead,
	api.Bishop: aslant, api.Bishop + 8: aslant,
	api.Rook: straight, api.Rook + 8: straight,
}

// wrong is what is no square: the nearest ones, those that a shift, a product or fewer bits would wrap round to one, and the farthest.
var wrong = []int{-1, -2, -9, -10, -81, 81, 82, 89, 90, 99, 255, 256, 256 + 40, 1<<16 + 40, 1 << 32, 1<<32 + 40, -1<<32 + 40, math.MinInt, math.MinInt + 40, math.MaxInt}

func sorted(list []step.Dir) []step.Dir {
	list = slices.Clone(list)
	slices.SortFunc(list, func(a, b step.Dir) int {
		return cmp.Or(cmp.Compare(a.File, b.File), cmp.Compare(a.Rank, b.Rank))
	})
	return list
}

// path is the squares of a way to the edge, in their order.
func path(q int, d step.Dir) []int {
	var list []int
	for n := 1; n <= 8; n++ {
		file, rank := q/9+n*d.File, q%9+n*d.Rank
		if file < 0 || file > 8 || rank < 0 || rank > 8 {
			break
		}
		list = append(list, 9*file+rank)
	}
	return list
}

// cut is a path up to the first square that is taken, and with it.
func cut(list []int, taken set.Set) set.Set {
	for i, q := range list {
		if taken.Has(q) {
			return set.Of(list[:i+1]...)
		}
	}
	return set.Of(list...)
}

// boards are some sets of what is taken: none, all, and mixed ones.
func boards() []set.Set {
	list := []set.Set{{}, set.All(), set.InFile(4), set.InRank(4), set.Of(0, 8, 40, 72, 80)}
	for every := 2; every < 12; every++ {
		var s set.Set
		for q := every / 2; q < api.Squares; q += every {
			s = s.With(q)
		}
		list = append(list, s, s.Not())
	}
	return list
}

// near are all ways of some files and ranks, but the zero one.
func near() []step.Dir {
	var list []step.Dir
	for file := -4; file <= 4; file++ {
		for rank := -4; rank <= 4; rank++ {
			if file != 0 || rank != 0 {
				list = append(list, step.Dir{File: file, Rank: rank})
			}
		}
	}
	return list
}

func TestDirs(t *testing.T) { // P4.1: kinds that only step, 13, and what is no kind slide nowhere
	list := []int{1<<16 + 2, 1<<32 + 2, -1<<32 + 6, 1<<32 + 15, math.MinInt, math.MinInt + 2, math.MaxInt, math.MaxInt - 9}
	for kind := -300; kind <= 300; kind++ {
		list = append(list, kind)
	}
	for _, kind := range list {
		if got, want := sorted(ray.Dirs(kind)), sorted(slides[kind]); !slices.Equal(got, want) {
			t.Errorf("Dirs(%d): %v, want %v", kind, got, want)
		}
	}
}

func TestWay(t *testing.T) { // P4.1
	for q := range api.Squares {
		for _, d := range near() {
			for _, taken := range boards() {
				if got, want := ray.Way(q, d, taken), cut(path(q, d), taken); got != want {
					t.Errorf("Way(%d, %v, %v): %v, want %v", q, d, taken.Squares(), got.Squares(), want.Squares())
				}
			}
		}
	}
}

func TestWayUpToWhatIsTaken(t *testing.T) { // P4.1: nothing taken, the first square, one behind a taken one, q itself
	for q := range api.Squares {
		for _, d := range near() {
			whole := path(q, d)
			off := set.Of(whole...).Not()
			if got := ray.Way(q, d, off); got != set.Of(whole...) {
				t.Errorf("Way(%d, %v), all taken but its squares: %v", q, d, got.Squares())
			}
			for i, first := range whole {
				want := set.Of(whole[:i+1]...)
				for _, behind := range whole[i:] {
					if got := ray.Way(q, d, set.Of(q, first, behind)); got != want {
						t.Errorf("Way(%d, %v), %d and %d taken: %v", q, d, first, behind, got.Squares())
					}
				}
			}
		}
	}
}

func TestWayByHand(t *testing.T) { // P4.1
	rows := []struct {
		q     int
		d     step.Dir
		taken []int
		want  []int
	}{
		{40, step.Dir{File: 0, Rank: -1}, nil, []int{36, 37, 38, 39}},
		{40, step.Dir{File: 0, Rank: -1}, []int{39}, []int{39}},
		{40, step.Dir{File: 0, Rank: -1}, []int{38, 37, 41}, []int{38, 39}},
		{40, step.Dir{File: 1, Rank: -1}, nil, []int{48, 56, 64, 72}},
		{9, step.Dir{File: 0, Rank: -1}, nil, nil},
		{8, step.Dir{File: 0, Rank: 1}, nil, nil},
		{8, step.Dir{File: 1, Rank: 0}, nil, []int{17, 26, 35, 44, 53, 62, 71, 80}},
		{0, step.Dir{File: -1, Rank: 0}, nil, nil},
		{80, step.Dir{File: -1, Rank: -1}, []int{40}, []int{40, 50, 60, 70}},
		{16, step.Dir{File: 1, Rank: 1}, nil, []int{26}},
	}
	for _, r := range rows {
		if got := ray.Way(r.q, r.d, set.Of(r.taken...)); got != set.Of(r.want...) {
			t.Errorf("Way(%d, %v, %v): %v, want %v", r.q, r.d, r.taken, got.Squares(), r.want)
		}
	}
}

func TestWayThatGoesNowhere(t *testing.T) { // P1, P4.1: the zero Dir, Dirs that leave the board at once, what is no square
	none := set.Set{}
	huge := []int{9, -9, 18, 81, -81, 255, 256, -256, 1 << 32, -1 << 32, 1 << 62, math.MaxInt, math.MinInt, math.MinInt + 8}
	for _, taken := range boards() {
		for q := range api.Squares {
			if got := ray.Way(q, step.Dir{}, taken); got != none {
				t.Errorf("Way(%d) of the zero Dir: %v", q, got.Squares())
			}
			for _, far := range huge {
				for _, d := range []step.Dir{{File: far}, {Rank: far}, {File: far, Rank: 1}, {File: -1, Rank: far}, {File: far, Rank: far}} {
					if got := ray.Way(q, d, taken); got != none {
						t.Errorf("Way(%d, %v): %v", q, d, got.Squares())
					}
				}
			}
		}
		for _, q := range wrong {
			for _, d := range append(near(), step.Dir{}) {
				if got := ray.Way(q, d, taken); got != none {
					t.Errorf("Way(%d, %v), which is no square: %v", q, d, got.Squares())
				}
			}
		}
	}
}

func TestOf(t *testing.T) { // P4.2: of all numbers that a piece may be, on all squares
	for n := math.MinInt8; n <= math.MaxInt8; n++ {
		p := api.Piece(n)
		kind, sign := n, 1
		if n > 16 {
			kind, sign = n-16, -1
		}
		for _, taken := range boards() {
			for q := range api.Squares {
				want := step.Of(p, q)
				for _, d := range slides[kind] {
					d = step.Dir{File: sign * d.File, Rank: sign * d.Rank}
					want = want.Or(cut(path(q, d), taken))
				}
				if got := ray.Of(p, q, taken); got != want {
					t.Errorf("Of(%d, %d, %v): %v, want %v", p, q, taken.Squares(), got.Squares(), want.Squares())
				}
			}
			for _, q := range wrong {
				if got := ray.Of(p, q, taken); got != (set.Set{}) {
					t.Errorf("Of(%d, %d), which is no square: %v", p, q, got.Squares())
				}
			}
		}
	}
}

func TestOfByHand(t *testing.T) { // P4.2: steps, slides, both; White's turned about; steps go whatever is taken
	const white = 16
	rows := []struct {
		p     api.Piece
		q     int
		taken []int
		want  []int
	}{
		{api.Lance, 44, []int{41}, []int{41, 42, 43}},
		{api.Lance, 44, []int{43}, []int{43}},
		{api.Lance, 36, nil, nil},
		{api.Lance + white, 40, nil, []int{41, 42, 43, 44}},
		{api.Lance + white, 44, nil, nil},
		{api.Knight, 40, []int{39, 29, 47}, []int{29, 47}},
		{api.Pawn + white, 40, []int{41}, []int{41}},
		{api.Bishop, 8, []int{40}, []int{16, 24, 32, 40}},
		{api.Bishop + api.Promoted, 8, []int{16, 7, 17}, []int{16, 7, 17}},
		{api.Rook + white, 0, []int{3, 18}, []int{1, 2, 3, 9, 18}},
		{api.Rook + api.Promoted + white, 0, []int{1, 9}, []int{1, 9, 10}},
		{api.Lance + api.Promoted, 40, nil, []int{39, 41, 31, 49, 30, 48}},
	}
	for _, r := range rows {
		if got := ray.Of(r.p, r.q, set.Of(r.taken...)); got != set.Of(r.want...) {
			t.Errorf("Of(%d, %d, %v): %v, want %v", r.p, r.q, r.taken, got.Squares(), r.want)
		}
	}
}

func distance(a, b int) int { return max(a-b, b-a) }

// between goes by the line's parts, told of both ends.
func between(a, b int) set.Set {
	var s set.Set
	files, ranks := distance(a/9, b/9), distance(a%9, b%9)
	if files != 0 && ranks != 0 && files != ranks {
		return s
	}
	parts := max(files, ranks)
	for n := 1; n < parts; n++ {
		file := ((parts-n)*(a/9) + n*(b/9)) / parts
		rank := ((parts-n)*(a%9) + n*(b%9)) / parts
		s = s.With(9*file + rank)
	}
	return s
}

func TestBetween(t *testing.T) { // P4.3: all squares, the same one twice and those side by side among them
	for a := range api.Squares {
		for b := range api.Squares {
			if got, want := ray.Between(a, b), between(a, b); got != want {
				t.Errorf("Between(%d, %d): %v, want %v", a, b, got.Squares(), want.Squares())
			}
		}
	}
}

func TestBetweenByHand(t *testing.T) { // P4.3
	rows := []struct {
		a, b int
		want []int
	}{
		{0, 8, []int{1, 2, 3, 4, 5, 6, 7}},
		{8, 9, nil},
		{8, 10, nil},
		{40, 40, nil},
		{40, 41, nil},
		{40, 50, nil},
		{40, 42, []int{41}},
		{40, 29, nil},
		{72, 0, []int{9, 18, 27, 36, 45, 54, 63}},
		{80, 70, nil},
		{80, 50, []int{60, 70}},
		{80, 60, []int{70}},
		{8, 72, []int{16, 24, 32, 40, 48, 56, 64}},
		{0, 19, nil},
	}
	for _, r := range rows {
		if got := ray.Between(r.a, r.b); got != set.Of(r.want...) {
			t.Errorf("Between(%d, %d): %v, want %v", r.a, r.b, got.Squares(), r.want)
		}
	}
}

func TestBetweenWhatIsNoSquare(t *testing.T) { // P4.3
	for _, a := range wrong {
		for q := range api.Squares {
			if got := ray.Between(a, q); got != (set.Set{}) {
				t.Errorf("Between(%d, %d): %v", a, q, got.Squares())
			}
			if got := ray.Between(q, a); got != (set.Set{}) {
				t.Errorf("Between(%d, %d): %v", q, a, got.Squares())
			}
		}
		for _, b := range wrong {
			if got := ray.Between(a, b); got != (set.Set{}) {
				t.Errorf("Between(%d, %d): %v", a, b, got.Squares())
			}
		}
	}
}

func TestExample(t *testing.T) { // the chapter's
	if got := ray.Of(api.Lance, 44, set.Of(41)); got != set.Of(43, 42, 41) {
		t.Errorf("the lance's way: %v", got.Squares())
	}
}

func TestNoCallPanics(t *testing.T) { // P1: also with bits that are no squares, of which nothing else is promised
	words := []uint64{0, 1, 1 << 18, 1 << 62, 1 << 63, math.MaxUint64}
	for _, lo := range words {
		for _, hi := range words {
			taken := set.Set{Lo: lo, Hi: hi}
			for _, q := range append([]int{0, 40, 62, 63, 80}, wrong...) {
				for _, d := range []step.Dir{{}, {File: 1}, {File: math.MinInt, Rank: math.MaxInt}} {
					ray.Way(q, d, taken)
				}
				for n := math.MinInt8; n <= math.MaxInt8; n++ {
					ray.Of(api.Piece(n), q, taken)
				}
			}
		}
	}
}

func TestDirsAreNewMemory(t *testing.T) { // P2: with their spare room
	for kind := range 16 {
		first, second := ray.Dirs(kind), ray.Dirs(kind)
		room := first[:cap(first)]
		for i := range room {
			room[i] = step.Dir{File: -2, Rank: 3}
		}
		for _, list := range [][]step.Dir{second, ray.Dirs(kind)} {
			if !slices.Equal(sorted(list), sorted(slides[kind])) {
				t.Errorf("Dirs(%d) is shared: %v", kind, list)
			}
		}
	}
	if got := ray.Of(api.Bishop, 0, set.Set{}); got.Count() != 8 {
		t.Errorf("Of hangs on what was done to Dirs: %v", got.Squares())
	}
}
