package set_test

import (
	"math"
	"slices"
	"testing"

	"kakugyo/api"
	"kakugyo/set"
)

// wrong is what is no square: the nearest ones, those that a shift or a product would wrap round to one, and the farthest.
var wrong = []int{-1, -2, -9, -63, -64, -81, 81, 82, 99, 127, 128, 144, 255, 256, 1 << 32, 1<<32 + 3, -1 << 32, math.MinInt, math.MinInt + 3, math.MaxInt}

// model is a set told square by square, against which the bits are held.
type model [api.Squares]bool

func (m model) set() set.Set {
	var s set.Set
	for q, in := range m {
		if in && q < 63 {
			s.Lo |= 1 << q
		} else if in {
			s.Hi |= 1 << (q - 63)
		}
	}
	return s
}

func (m model) squares() []int {
	var list []int
	for q, in := range m {
		if in {
			list = append(list, q)
		}
	}
	return list
}

func with(squares ...int) model {
	var m model
	for _, q := range squares {
		m[q] = true
	}
	return m
}

func every(step, first int) model {
	var m model
	for q := first; q < api.Squares; q += step {
		m[q] = true
	}
	return m
}

// models: the empty set, all squares, each square alone, those about the border of the words, and mixed ones.
func models() []model {
	list := []model{{}, every(1, 0), with(62, 63), with(62, 63, 80), with(0, 80), with(0, 62), with(63, 80), with(61, 64), every(1, 63), every(1, 62)}
	for step := 2; step < 11; step++ {
		list = append(list, every(step, 0), every(step, step-1))
	}
	for q := range api.Squares {
		list = append(list, with(q))
	}
	return list
}

func TestLowIsTheBorderOfTheWords(t *testing.T) { // the chapter's Limits and Types
	if set.Low != 63 {
		t.Errorf("Low: %d", set.Low)
	}
	for q, want := range map[int]set.Set{0: {Lo: 1}, 62: {Lo: 1 << 62}, 63: {Hi: 1}, 80: {Hi: 1 << 17}} {
		if got := set.Of(q); got != want {
			t.Errorf("Of(%d): %x", q, got)
		}
	}
	if (set.Set{}) != set.Of() {
		t.Error("the zero Set isn't empty")
	}
}

func TestAllAndOf(t *testing.T) { // P1.1
	if got, want := set.All(), every(1, 0).set(); got != want {
		t.Errorf("All: %x, want %x", got, want)
	}
	for _, m := range models() {
		if got, want := set.Of(m.squares()...), m.set(); got != want {
			t.Errorf("Of(%v): %x, want %x", m.squares(), got, want)
		}
	}
	if got, want := set.Of(80, 3, 63, 3, 62, 80), with(3, 62, 63, 80).set(); got != want {
		t.Errorf("Of several, some twice, none rising: %x, want %x", got, want)
	}
	if got := set.Of(wrong...); got != (set.Set{}) {
		t.Errorf("Of what is no square: %x", got)
	}
	if got, want := set.Of(3, 70, 99), with(3, 70).set(); got != want {
		t.Errorf("the chapter's example: %x, want %x", got, want)
	}
}

func TestWithWithoutAndHas(t *testing.T) { // P1.1
	for _, m := range models() {
		s := m.set()
		for q := range api.Squares {
			more, less := m, m
			more[q], less[q] = true, false
			if got := s.With(q); got != more.set() {
				t.Errorf("%v With(%d): %x", m.squares(), q, got)
			}
			if got := s.Without(q); got != less.set() {
				t.Errorf("%v Without(%d): %x", m.squares(), q, got)
			}
			if s.Has(q) != m[q] {
				t.Errorf("%v Has(%d): %v", m.squares(), q, s.Has(q))
			}
		}
		for _, q := range wrong {
			if s.With(q) != s || s.Without(q) != s || s.Has(q) {
				t.Errorf("%v with or without %d, which is no square", m.squares(), q)
			}
		}
	}
}

func TestAndOrMinusNot(t *testing.T) { // P1.2
	all := models()
	for _, a := range all {
		var not model
		for q := range a {
			not[q] = !a[q]
		}
		if got := a.set().Not(); got != not.set() {
			t.Errorf("Not of %v: %x", a.squares(), got)
		}
		for _, b := range all {
			var and, or, minus model
			for q := range a {
				and[q], or[q], minus[q] = a[q] && b[q], a[q] || b[q], a[q] && !b[q]
			}
			s, u := a.set(), b.set()
			if s.And(u) != and.set() || s.Or(u) != or.set() || s.Minus(u) != minus.set() {
				t.Errorf("%v and %v: And %x, Or %x, Minus %x", a.squares(), b.squares(), s.And(u), s.Or(u), s.Minus(u))
			}
		}
	}
}

func TestWhatASetHas(t *testing.T) { // P1.3
	for _, m := range models() {
		s, want := m.set(), m.squares()
		first, last := -1, -1
		if len(want) > 0 {
			first, last = want[0], want[len(want)-1]
		}
		if s.Empty() != (len(want) == 0) || s.Count() != len(want) {
			t.Errorf("%v: Empty %v, Count %d", want, s.Empty(), s.Count())
		}
		if s.First() != first || s.Last() != last {
			t.Errorf("%v: First %d, Last %d", want, s.First(), s.Last())
		}
		if got := s.Squares(); !slices.Equal(got, want) {
			t.Errorf("Squares: %v, want %v", got, want)
		}
	}
}

func TestFilesAndRanks(t *testing.T) { // P1.4
	q := 0
	for file := range 9 {
		for rank := range 9 {
			if set.File(q) != file || set.Rank(q) != rank || set.Square(file, rank) != q {
				t.Errorf("%d: File %d, Rank %d; Square(%d, %d): %d", q, set.File(q), set.Rank(q), file, rank, set.Square(file, rank))
			}
			q++
		}
	}
	outside := append([]int{9, 10, 17, 18}, wrong...)
	for _, a := range outside {
		for _, b := range append([]int{0, 4, 8}, outside...) {
			if set.Square(a, b) != -1 || set.Square(b, a) != -1 {
				t.Errorf("Square of %d and %d: %d, %d", a, b, set.Square(a, b), set.Square(b, a))
			}
		}
		if set.InFile(a) != (set.Set{}) || set.InRank(a) != (set.Set{}) {
			t.Errorf("InFile or InRank of %d isn't empty", a)
		}
	}
}

func TestInFileAndInRank(t *testing.T) { // P1.4
	for n := range 9 {
		var file, rank model
		for q := range api.Squares {
			file[q], rank[q] = q/9 == n, q%9 == n
		}
		if set.InFile(n) != file.set() {
			t.Errorf("InFile(%d): %v", n, set.InFile(n).Squares())
		}
		if set.InRank(n) != rank.set() {
			t.Errorf("InRank(%d): %v", n, set.InRank(n).Squares())
		}
	}
}

func TestNoCallPanics(t *testing.T) { // P1: also with bits that are no squares, of which nothing else is promised
	words := []uint64{0, 1, 1 << 17, 1 << 18, 1 << 62, 1 << 63, 1<<63 - 1, math.MaxUint64}
	for _, lo := range words {
		for _, hi := range words {
			s := set.Set{Lo: lo, Hi: hi}
			for _, q := range append([]int{0, 62, 63, 80}, wrong...) {
				s.With(q)
				s.Without(q)
				s.Has(q)
			}
			s.And(set.All())
			s.Or(set.All())
			s.Minus(set.All())
			s.Not()
			s.Empty()
			s.Count()
			s.First()
			s.Last()
			s.Squares()
		}
	}
	for _, q := range wrong {
		set.File(q)
		set.Rank(q)
	}
}

func TestSetsStayAsTheyAre(t *testing.T) { // P2
	s, u := set.Of(3, 62, 63), set.Of(3, 80)
	s.With(4)
	s.With(81)
	s.Without(62)
	s.And(u)
	s.Or(u)
	s.Minus(u)
	s.Not()
	s.Squares()
	if s != set.Of(3, 62, 63) || u != set.Of(3, 80) {
		t.Errorf("changed: %v, %v", s.Squares(), u.Squares())
	}
}

func TestListsHandedInStayAsTheyAre(t *testing.T) { // P2: with their spare room
	list := []int{80, 3, 99, -1, 3, 7, 7, 7}
	want := slices.Clone(list)
	s := set.Of(list[:5]...)
	if !slices.Equal(list, want) {
		t.Errorf("changed: %v", list)
	}
	for i := range list {
		list[i] = 40
	}
	if s != set.Of(3, 80) {
		t.Errorf("the list was kept: %v", s.Squares())
	}
}

func TestSquaresAreNewMemory(t *testing.T) { // P2: with their spare room
	s := set.Of(3, 62, 63, 80)
	first, second := s.Squares(), s.Squares()
	room := first[:cap(first)]
	for i := range room {
		room[i] = -7
	}
	for _, list := range [][]int{second, s.Squares()} {
		if !slices.Equal(list, []int{3, 62, 63, 80}) {
			t.Errorf("shared: %v", list)
		}
	}
}
