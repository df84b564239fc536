package move_test

import (
	"math"
	"slices"
	"strings"
	"testing"

	"kakugyo/api"
	"kakugyo/move"
)

// The signs of names, as the chapter tells them.
const (
	files   = "123456789"
	ranks   = "abcdefghi"
	letters = "PLNSGBR"
)

// wrong is what is no square: the nearest ones, those that a product or fewer bits would wrap round to one, and the farthest.
var wrong = []int{-1, -2, -9, -10, -81, 81, 82, 89, 90, 99, 127, 128, 255, 256, 256 + 40, 1<<16 + 40, 1 << 32, 1<<32 + 40, -1<<32 + 40, math.MinInt, math.MinInt + 40, math.MaxInt}

// wrongDrops are what is no kind in hand, but not 0, which is no drop.
var wrongDrops = []int{-1, -2, -7, 8, 9, 10, 15, 16, 17, 23, 255, 256, 257, 1<<16 + 1, 1 << 32, 1<<32 + 1, -1<<32 + 1, math.MinInt, math.MinInt + 1, math.MaxInt}

// dice are numbers without a pattern, the same ones in each run.
type dice uint64

func (d *dice) below(n int) int {
	*d = *d*6364136223846793005 + 1442695040888963407
	return int(uint64(*d) >> 33 % uint64(n))
}

func is(q int) bool { return q >= 0 && q <= 80 }

// expected is P7.1 told fault by fault, in its order.
func expected(m api.Move) api.Errno {
	if !is(m.To) {
		return api.ErrRange
	}
	if m.Drop != 0 {
		if m.Drop < 1 || m.Drop > 7 || m.From != 0 || m.Promote {
			return api.ErrForm
		}
		return api.OK
	}
	if !is(m.From) {
		return api.ErrRange
	}
	if m.From == m.To {
		return api.ErrForm
	}
	return api.OK
}

// raws are moves of right and wrong numbers, each with each.
func raws() []api.Move {
	squares := append([]int{0, 1, 2, 8, 9, 40, 62, 63, 79, 80}, wrong...)
	drops := append([]int{0, 1, 2, 3, 4, 5, 6, 7}, wrongDrops...)
	var list []api.Move
	for _, from := range squares {
		for _, to := range squares {
			for _, drop := range drops {
				list = append(list, api.Move{From: from, To: to, Drop: drop}, api.Move{From: from, To: to, Drop: drop, Promote: true})
			}
		}
	}
	return list
}

// named is a move and its name.
type named struct {
	m    api.Move
	name string
}

func square(q int) string { return files[q/9:q/9+1] + ranks[q%9:q%9+1] }

// all are all moves that have names, in the order of P7.4.
func all() []named {
	var list []named
	for from := range api.Squares {
		for to := range api.Squares {
			if from != to {
				name := square(from) + square(to)
				list = append(list, named{api.Move{From: from, To: to}, name}, named{api.Move{From: from, To: to, Promote: true}, name + "+"})
			}
		}
	}
	for drop := 1; drop <= 7; drop++ {
		for to := range api.Squares {
			list = append(list, named{api.Move{To: to, Drop: drop}, letters[drop-1:drop] + "*" + square(to)})
		}
	}
	return list
}

// names are all names with their moves.
func names() map[string]api.Move {
	found := map[string]api.Move{}
	for _, x := range all() {
		found[x.name] = x.m
	}
	return found
}

func TestCheck(t *testing.T) { // P7.1, P1: right and wrong numbers, each with each
	seen := map[api.Errno]int{}
	for _, m := range raws() {
		got, want := move.Check(m), expected(m)
		if got != want {
			t.Errorf("Check(%v): %v, want %v", m, got, want)
		}
		seen[got]++
	}
	for _, e := range []api.Errno{api.OK, api.ErrRange, api.ErrForm} {
		if seen[e] < 50 {
			t.Errorf("%v was the answer %d times only", e, seen[e])
		}
	}
	for _, x := range all() {
		if got := move.Check(x.m); got != api.OK {
			t.Errorf("Check(%v): %v", x.m, got)
		}
	}
}

func TestCheckByHand(t *testing.T) { // P7.1: each fault alone, and the first one of several
	rows := []struct {
		m    api.Move
		want api.Errno
	}{
		{api.Move{From: 60, To: 59}, api.OK},
		{api.Move{From: 0, To: 80, Promote: true}, api.OK},
		{api.Move{From: 80, To: 0}, api.OK},
		{api.Move{To: 40, Drop: 1}, api.OK},
		{api.Move{To: 0, Drop: 7}, api.OK},
		{api.Move{}, api.ErrForm},
		{api.Move{From: 40, To: 40}, api.ErrForm},
		{api.Move{From: 40, To: 40, Promote: true}, api.ErrForm},
		{api.Move{From: 40, To: 81}, api.ErrRange},
		{api.Move{From: 40, To: -1}, api.ErrRange},
		{api.Move{From: 81, To: 40}, api.ErrRange},
		{api.Move{From: -1, To: 40}, api.ErrRange},
		{api.Move{To: 40, Drop: 8}, api.ErrForm},
		{api.Move{To: 40, Drop: -1}, api.ErrForm},
		{api.Move{To: 40, Drop: 9}, api.ErrForm},
		{api.Move{From: 39, To: 40, Drop: 1}, api.ErrForm},
		{api.Move{To: 40, Drop: 1, Promote: true}, api.ErrForm},
		// Several: To is told first, then what is wrong with a drop, then From, then that it is To.
		{api.Move{To: 81, Drop: 8}, api.ErrRange},
		{api.Move{To: -1, Drop: 1, Promote: true}, api.ErrRange},
		{api.Move{From: 3, To: 81, Drop: 1}, api.ErrRange},
		{api.Move{From: 81, To: 40, Drop: 1}, api.ErrForm},
		{api.Move{From: -1, To: 40, Drop: 8}, api.ErrForm},
		{api.Move{From: 40, To: 40, Drop: 1}, api.ErrForm},
		{api.Move{From: 81, To: 81}, api.ErrRange},
		{api.Move{From: -1, To: -1, Promote: true}, api.ErrRange},
	}
	for _, r := range rows {
		if got := move.Check(r.m); got != r.want {
			t.Errorf("Check(%v): %v, want %v", r.m, got, r.want)
		}
	}
}

func TestSquare(t *testing.T) { // P7.2: the names of all squares
	for q := range api.Squares {
		if got := move.Square(q); got != square(q) {
			t.Errorf("Square(%d): %q, want %q", q, got, square(q))
		}
	}
	for _, q := range wrong {
		if got := move.Square(q); got != "" {
			t.Errorf("Square(%d): %q", q, got)
		}
	}
	for q, want := range map[int]string{0: "1a", 8: "1i", 9: "2a", 40: "5e", 60: "7g", 72: "9a", 80: "9i"} {
		if got := move.Square(q); got != want {
			t.Errorf("Square(%d): %q, want %q", q, got, want)
		}
	}
}

func TestTextAndParse(t *testing.T) { // P7.2, P7.3: all moves that have names
	for _, x := range all() {
		if got := move.Text(x.m); got != x.name {
			t.Errorf("Text(%v): %q, want %q", x.m, got, x.name)
		}
		if got, e := move.Parse(x.name); got != x.m || e != api.OK {
			t.Errorf("Parse(%q): %v, %v, want %v", x.name, got, e, x.m)
		}
	}
}

func TestTextOfWhatCannotBe(t *testing.T) { // P7.2, P1
	for _, m := range raws() {
		if got := move.Text(m); (got == "") != (expected(m) != api.OK) {
			t.Errorf("Text(%v): %q", m, got)
		}
	}
}

// hold holds what Parse answers of a text against the names.
func hold(t *testing.T, found map[string]api.Move, s string) {
	t.Helper()
	m, there := found[s]
	want := api.ErrForm
	if there {
		want = api.OK
	}
	if got, e := move.Parse(s); got != m || e != want {
		t.Errorf("Parse(%q): %v, %v, want %v, %v", s, got, e, m, want)
	}
}

func TestParseOfShortTexts(t *testing.T) { // P7.3: all texts of at most four of these signs, the nearest ones to digits and letters among them
	const alphabet = "019:/a`ijAIPRKpr*+ -\x00"
	found := names()
	list := []string{""}
	for range 4 {
		var longer []string
		for _, s := range list {
			hold(t, found, s)
			for _, x := range alphabet {
				longer = append(longer, s+string(x))
			}
		}
		list = longer
	}
	for _, s := range list {
		hold(t, found, s)
	}
}

// strange are signs that fewer bits, another case or another width would make one of a name, and bytes that are no sign.
var strange = []string{"", "歩", "１", "ａ", "Ｐ", "＊", "＋", "K", "\u0131", "\u0161", "\u0150", "\u012a", "\u012b", "\U00010031", "\U00010061", "\U00010050", "\U0001002a", "\U0001002b", "\x80", "\xb1", "\xe1", "\xd0", "\xff", "\xc0\xb1", "\xf0", "\ufffd", "\u0300"}

func TestParseOfNamesThatAreSpoilt(t *testing.T) { // P7.3: a sign more, less, or another one in its place
	found := names()
	signs := slices.Clone(strange)
	for n := range 256 {
		signs = append(signs, string([]byte{byte(n)}))
	}
	for _, s := range []string{"7g7f", "1a9i", "9i1a", "8h2b+", "1a1b+", "P*5e", "R*9i", "L*1a"} {
		for i := 0; i <= len(s); i++ {
			for _, x := range signs {
				hold(t, found, s[:i]+x+s[i:])
				if i < len(s) {
					hold(t, found, s[:i]+x+s[i+1:])
				}
			}
		}
		for i := range len(s) {
			hold(t, found, s[:i])
			hold(t, found, s[i+1:])
		}
	}
}

func TestParseOfTheOtherCase(t *testing.T) { // P7.3
	for _, x := range all() {
		other := strings.ToUpper(x.name)
		if x.m.Drop != 0 {
			other = strings.ToLower(x.name)
		}
		if m, e := move.Parse(other); m != (api.Move{}) || e != api.ErrForm {
			t.Errorf("Parse(%q): %v, %v", other, m, e)
		}
	}
	for _, s := range []string{"P*5E", "p*5E", "7G7f", "7g7F", "7g7F+"} {
		if m, e := move.Parse(s); m != (api.Move{}) || e != api.ErrForm {
			t.Errorf("Parse(%q): %v, %v", s, m, e)
		}
	}
}

func TestParseByHand(t *testing.T) { // P7.3: what is no name, beside P7.1's faults
	for _, s := range []string{"", " ", "+", "*", "7", "7g", "7g7", "7g7f ", " 7g7f", "7g 7f", "7g7f\n", "7g7f\x00", "7g7f++", "7g7f+ ", "+7g7f", "7g7f-", "7g7f=", "7g7g", "7g7g+", "1a1a", "0a1a", "1a0a", "1j1a", "1a1j", "10a1a", "P*", "P*5", "P*5e+", "P*5e5", "p*5e", "K*5e", "k*5e", "+P*5e", "+*5e", "1*5e", "**5e", "P**5e", "P5e", "P5e*", "P*0a", "P*1j", "0000", "00001", "resign", "win", "歩*5e", "7g7f\xff", "\xff7g7f", "\xff\xff\xff\xff", "7g7f3c3d"} {
		if m, e := move.Parse(s); m != (api.Move{}) || e != api.ErrForm {
			t.Errorf("Parse(%q): %v, %v", s, m, e)
		}
	}
}

func TestParseOfLongTexts(t *testing.T) { // P1, P7.3
	for _, s := range []string{"7g7f", "7g7f+", "P*5e", "+", "7", "\xff", "歩"} {
		for _, more := range []string{"+", " ", "7g7f", "\x00", "\xff"} {
			if m, e := move.Parse(s + strings.Repeat(more, 1<<16)); m != (api.Move{}) || e != api.ErrForm {
				t.Errorf("Parse of %q and many %q: %v, %v", s, more, m, e)
			}
		}
	}
}

func TestParseOfAnyBytes(t *testing.T) { // P1, P7.3
	const near = "123456789abcdefghiPLNSGBR*+"
	found := names()
	d := dice(1)
	right := 0
	for n := range 400000 {
		b := make([]byte, d.below(8))
		for i := range b {
			b[i] = byte(d.below(256))
			if n%4 > 0 {
				b[i] = near[d.below(len(near))]
			}
		}
		hold(t, found, string(b))
		if _, there := found[string(b)]; there {
			right++
		}
	}
	if right < 100 {
		t.Errorf("%d texts were names only", right)
	}
}

// order is P7.4 told part by part.
func order(a, b api.Move) int {
	less := false
	switch {
	case a.Drop != b.Drop:
		less = a.Drop < b.Drop
	case a.From != b.From:
		less = a.From < b.From
	case a.To != b.To:
		less = a.To < b.To
	case a.Promote != b.Promote:
		less = b.Promote
	default:
		return 0
	}
	if less {
		return -1
	}
	return 1
}

func TestCompare(t *testing.T) { // P7.4, P1: raw moves, too, also such as are farther apart than a number tells
	squares := []int{math.MinInt, -1 << 32, -1, 0, 1, 40, 80, 81, 1 << 32, math.MaxInt}
	var list []api.Move
	for _, drop := range []int{math.MinInt, -1, 0, 1, 7, 8, math.MaxInt} {
		for _, from := range squares {
			for _, to := range squares {
				list = append(list, api.Move{From: from, To: to, Drop: drop}, api.Move{From: from, To: to, Drop: drop, Promote: true})
			}
		}
	}
	for _, a := range list {
		for _, b := range list {
			if got := move.Compare(a, b); got != order(a, b) {
				t.Fatalf("Compare(%v, %v): %d, want %d", a, b, got, order(a, b))
			}
		}
	}
}

func TestCompareOfOneDifference(t *testing.T) { // P7.4: and of two, of which the first part decides
	rows := []struct {
		a, b api.Move
		want int
	}{
		{api.Move{From: 1, To: 2}, api.Move{From: 1, To: 2}, 0},
		{api.Move{To: 2, Drop: 3}, api.Move{To: 2, Drop: 3}, 0},
		{api.Move{To: 2}, api.Move{To: 2, Drop: 1}, -1},
		{api.Move{To: 2, Drop: 1}, api.Move{To: 2, Drop: 7}, -1},
		{api.Move{From: 1, To: 2}, api.Move{From: 3, To: 2}, -1},
		{api.Move{From: 1, To: 2}, api.Move{From: 1, To: 3}, -1},
		{api.Move{From: 1, To: 2}, api.Move{From: 1, To: 2, Promote: true}, -1},
		{api.Move{From: 80, To: 79, Promote: true}, api.Move{To: 0, Drop: 1}, -1},
		{api.Move{To: 80, Drop: 1}, api.Move{To: 0, Drop: 2}, -1},
		{api.Move{From: 1, To: 80}, api.Move{From: 2, To: 0}, -1},
		{api.Move{From: 1, To: 80, Promote: true}, api.Move{From: 2, To: 0}, -1},
		{api.Move{From: 1, To: 2, Promote: true}, api.Move{From: 1, To: 3}, -1},
	}
	for _, r := range rows {
		if got := move.Compare(r.a, r.b); got != r.want {
			t.Errorf("Compare(%v, %v): %d, want %d", r.a, r.b, got, r.want)
		}
		if got := move.Compare(r.b, r.a); got != -r.want {
			t.Errorf("Compare(%v, %v): %d, want %d", r.b, r.a, got, -r.want)
		}
	}
}

func TestCompareSorts(t *testing.T) { // P7.4: all moves that have names
	var want, got []api.Move
	for _, x := range all() {
		want = append(want, x.m)
	}
	d := dice(2)
	got = slices.Clone(want)
	for i := range got {
		j := i + d.below(len(got)-i)
		got[i], got[j] = got[j], got[i]
	}
	slices.SortFunc(got, move.Compare)
	if !slices.Equal(got, want) {
		t.Error("sorted, the moves stand in another order")
	}
}

func TestAnswersStayTheSame(t *testing.T) { // P2: there is no chance in them
	d := dice(3)
	list := all()
	for range 20000 {
		x, y := list[d.below(len(list))], list[d.below(len(list))]
		m, _ := move.Parse(x.name)
		move.Parse(y.name)
		move.Text(y.m)
		again, e := move.Parse(x.name)
		if m != again || e != api.OK || move.Text(x.m) != x.name || move.Compare(x.m, y.m) != order(x.m, y.m) {
			t.Fatalf("%v is another one, asked again", x)
		}
	}
}

func TestExamples(t *testing.T) { // the chapter's
	if m, e := move.Parse("7g7f"); m != (api.Move{From: 60, To: 59}) || e != api.OK {
		t.Errorf("7g7f: %v, %v", m, e)
	}
	if m, e := move.Parse("P*5e"); m != (api.Move{To: 40, Drop: api.Pawn}) || e != api.OK {
		t.Errorf("P*5e: %v, %v", m, e)
	}
}
