package piece_test

import (
	"math"
	"testing"
	"unicode/utf8"

	"kakugyo/api"
	"kakugyo/piece"
)

// row is what the chapter says of a kind.
type row struct {
	kind, raw, up, total int
	black, white         string
	sign                 rune
}

// rows are all kinds; what isn't here is none.
var rows = []row{
	{1, 1, 9, 18, "P", "p", '歩'},
	{2, 2, 10, 4, "L", "l", '香'},
	{3, 3, 11, 4, "N", "n", '桂'},
	{4, 4, 12, 4, "S", "s", '銀'},
	{5, 5, 0, 4, "G", "g", '金'},
	{6, 6, 14, 2, "B", "b", '角'},
	{7, 7, 15, 2, "R", "r", '飛'},
	{8, 8, 0, 2, "K", "k", '玉'},
	{9, 1, 0, 0, "+P", "+p", 'と'},
	{10, 2, 0, 0, "+L", "+l", '杏'},
	{11, 3, 0, 0, "+N", "+n", '圭'},
	{12, 4, 0, 0, "+S", "+s", '全'},
	{14, 6, 0, 0, "+B", "+b", '馬'},
	{15, 7, 0, 0, "+R", "+r", '龍'},
}

// rowOf is a row of zeros for what is no kind.
func rowOf(kind int) row {
	for _, r := range rows {
		if r.kind == kind {
			return r
		}
	}
	return row{}
}

// numbers are all that come near to kinds, those that wrap round to one in fewer bits, and the farthest.
func numbers() []int {
	list := []int{256 + 1, 1<<8 + 17, 1<<16 + 1, 1<<32 + 1, -1<<32 + 1, math.MinInt, math.MinInt + 1, math.MinInt + 9, math.MaxInt, math.MaxInt - 6}
	for n := -300; n <= 300; n++ {
		list = append(list, n)
	}
	return list
}

func TestKindAndSide(t *testing.T) { // P2.1
	for n := math.MinInt8; n <= math.MaxInt8; n++ {
		kind, side := 0, -1
		if n > 0 && n < 16 && rowOf(n).kind != 0 {
			kind, side = n, api.Black
		} else if n > 16 && n < 32 && rowOf(n-16).kind != 0 {
			kind, side = n-16, api.White
		}
		p := api.Piece(n)
		if piece.Kind(p) != kind || piece.Side(p) != side {
			t.Errorf("%d: Kind %d, Side %d, want %d, %d", n, piece.Kind(p), piece.Side(p), kind, side)
		}
	}
}

func TestOf(t *testing.T) { // P2.1
	for _, side := range numbers() {
		for _, kind := range numbers() {
			want := 0
			if (side == api.Black || side == api.White) && rowOf(kind).kind != 0 {
				want = kind + 16*side
			}
			if got := piece.Of(side, kind); got != api.Piece(want) {
				t.Errorf("Of(%d, %d): %d, want %d", side, kind, got, want)
			}
		}
	}
}

func TestKindsOfKinds(t *testing.T) { // P2.2
	for _, kind := range numbers() {
		want := rowOf(kind)
		if got := piece.Raw(kind); got != want.raw {
			t.Errorf("Raw(%d): %d, want %d", kind, got, want.raw)
		}
		if got := piece.Up(kind); got != want.up {
			t.Errorf("Up(%d): %d, want %d", kind, got, want.up)
		}
		if got := piece.Total(kind); got != want.total {
			t.Errorf("Total(%d): %d, want %d", kind, got, want.total)
		}
	}
}

// names are those of all pieces.
func names() map[string]api.Piece {
	list := map[string]api.Piece{}
	for _, r := range rows {
		list[r.black] = api.Piece(r.kind)
		list[r.white] = api.Piece(r.kind + 16)
	}
	return list
}

func TestName(t *testing.T) { // P2.3
	want := map[api.Piece]string{}
	for name, p := range names() {
		want[p] = name
	}
	for n := math.MinInt8; n <= math.MaxInt8; n++ {
		if got := piece.Name(api.Piece(n)); got != want[api.Piece(n)] {
			t.Errorf("Name of %d: %q, want %q", n, got, want[api.Piece(n)])
		}
	}
}

// runes are all of them, and numbers that are none.
func runes() []rune {
	list := []rune{math.MinInt32, -'P', -1, utf8.MaxRune + 1, math.MaxInt32}
	for x := rune(0); x <= utf8.MaxRune; x++ {
		list = append(list, x)
	}
	return list
}

func TestParse(t *testing.T) { // P2.3
	want := names()
	for _, letter := range runes() {
		name := ""
		if utf8.ValidRune(letter) {
			name = string(letter)
		}
		if got := piece.Parse(letter, false); got != want[name] {
			t.Errorf("Parse(%q, false): %d, want %d", letter, got, want[name])
		}
		if got := piece.Parse(letter, true); got != want["+"+name] {
			t.Errorf("Parse(%q, true): %d, want %d", letter, got, want["+"+name])
		}
	}
}

func TestSign(t *testing.T) { // P2.4
	for _, kind := range numbers() {
		if got, want := piece.Sign(kind), rowOf(kind).sign; got != want {
			t.Errorf("Sign(%d): %q, want %q", kind, got, want)
		}
	}
}

func TestFromSign(t *testing.T) { // P2.4
	want := map[rune]int{'王': api.King, '竜': api.Rook + api.Promoted}
	for _, r := range rows {
		want[r.sign] = r.kind
	}
	for _, x := range runes() {
		if got := piece.FromSign(x); got != want[x] {
			t.Errorf("FromSign(%q): %d, want %d", x, got, want[x])
		}
	}
}

func TestExample(t *testing.T) { // the chapter's
	p := piece.Parse('p', false)
	if p != 17 || piece.Side(p) != api.White {
		t.Errorf("p: %d", p)
	}
	up := piece.Up(piece.Kind(p))
	if up != 9 || piece.Name(piece.Of(api.White, up)) != "+p" || piece.Sign(up) != 'と' {
		t.Errorf("promoted: %d", up)
	}
}

func TestAnswersDontHangOnCallsBefore(t *testing.T) { // P1, P2: all that is asked here is asked twice, wrong numbers between
	for range 2 {
		for _, r := range rows {
			black, white := api.Piece(r.kind), api.Piece(r.kind+16)
			if piece.Name(black) != r.black || piece.Name(white) != r.white || piece.Sign(r.kind) != r.sign || piece.Raw(r.kind) != r.raw {
				t.Errorf("kind %d: another answer", r.kind)
			}
			piece.Name(-128)
			piece.Sign(math.MinInt)
			piece.FromSign(math.MinInt32)
			piece.Of(math.MaxInt, math.MinInt)
		}
	}
}
