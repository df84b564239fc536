package digit_test

import (
	"fmt"
	"math"
	"regexp"
	"strconv"
	"strings"
	"testing"
	"unicode/utf8"

	"kakugyo/digit"
)

const (
	signs = "１２３４５６７８９"
	words = "一二三四五六七八九"
)

// dice are numbers without a pattern, the same ones in each run.
type dice uint64

func (d *dice) below(n int) int {
	*d = *d*6364136223846793005 + 1442695040888963407
	return int(uint64(*d) >> 33 % uint64(n))
}

// far are numbers a great way off, among them such as are small ones again, if bits are lost.
var far = []int{math.MinInt, math.MinInt + 1, math.MinInt32, math.MinInt32 + 1, -1 << 32, -1<<32 + 5, -65535, -256, -255, 256, 257, 261, 65536, 65541, math.MaxInt32, 1 << 32, 1<<32 + 1, 1<<32 + 40, math.MaxInt - 1, math.MaxInt}

// runes are all that there are, some below 0, and some past the last one.
func runes(visit func(x rune)) {
	for x := rune(-70000); x <= utf8.MaxRune+70000; x++ {
		visit(x)
	}
	for _, x := range []rune{math.MinInt32, math.MinInt32 + 1, math.MaxInt32 - 1, math.MaxInt32, 1<<24 + '１', 1<<24 + '一', 1<<24 + '九', -1 << 24, '１' - 1<<24} {
		visit(x)
	}
}

func TestSigns(t *testing.T) { // P15.1: of digits, and of numbers that are none
	full, word := []rune(signs), []rune(words)
	check := func(n int) {
		var wantFull, wantWord rune
		if n >= 1 && n <= 9 {
			wantFull, wantWord = full[n-1], word[n-1]
		}
		if got := digit.Full(n); got != wantFull {
			t.Errorf("Full(%d): %q, want %q", n, got, wantFull)
		}
		if got := digit.Word(n); got != wantWord {
			t.Errorf("Word(%d): %q, want %q", n, got, wantWord)
		}
	}
	for n := -300; n <= 300; n++ {
		check(n)
	}
	for _, n := range far {
		check(n)
	}
	if digit.Full(1) != 0xFF11 || digit.Full(9) != 0xFF19 || digit.Word(1) != 0x4E00 || digit.Word(5) != 0x4E94 || digit.Word(9) != 0x4E5D {
		t.Error("other runes than Unicode has")
	}
}

func TestFromSigns(t *testing.T) { // P15.1: of all runes, and of what is none
	full, word := map[rune]int{}, map[rune]int{}
	for n, x := range []rune(signs) {
		full[x] = n + 1
	}
	for n, x := range []rune(words) {
		word[x] = n + 1
	}
	runes(func(x rune) {
		if got := digit.FromFull(x); got != full[x] {
			t.Errorf("FromFull(%q, %d): %d, want %d", x, x, got, full[x])
		}
		if got := digit.FromWord(x); got != word[x] {
			t.Errorf("FromWord(%q, %d): %d, want %d", x, x, got, word[x])
		}
	})
	for _, x := range "０：⓪①〇零十百壱弐0123456789:/" {
		if digit.FromFull(x) != 0 || digit.FromWord(x) != 0 {
			t.Errorf("%q is a digit", x)
		}
	}
	for n := 1; n <= 9; n++ {
		if digit.FromFull(digit.Full(n)) != n || digit.FromWord(digit.Word(n)) != n || digit.FromFull(digit.Word(n)) != 0 || digit.FromWord(digit.Full(n)) != 0 {
			t.Errorf("there and back: %d", n)
		}
	}
}

// named is P15.2's Square: of each square a text of its own.
func named() map[int]string {
	names := map[int]string{}
	q := 0
	for _, file := range signs {
		for _, rank := range words {
			names[q] = string(file) + string(rank)
			q++
		}
	}
	return names
}

func TestSquare(t *testing.T) { // P15.2: of squares, and of what is none
	names := named()
	for q := -300; q <= 300; q++ {
		if got := digit.Square(q); got != names[q] {
			t.Errorf("Square(%d): %q, want %q", q, got, names[q])
		}
	}
	for _, q := range far {
		if got := digit.Square(q); got != "" {
			t.Errorf("Square(%d): %q", q, got)
		}
	}
	// The chapter's example, and the corners.
	for q, want := range map[int]string{59: "７六", 0: "１一", 8: "１九", 9: "２一", 40: "５五", 72: "９一", 80: "９九", -1: "", 81: ""} {
		if got := digit.Square(q); got != want {
			t.Errorf("Square(%d): %q, want %q", q, got, want)
		}
	}
}

// cuts is a check of Cut.
func cuts(t *testing.T, s string, q int, rest string) {
	t.Helper()
	if gotQ, got := digit.Cut(s); gotQ != q || got != rest {
		t.Errorf("Cut(%q): %d %q, want %d %q", s, gotQ, got, q, rest)
	}
}

func TestCutOfSquares(t *testing.T) { // P15.2: with nothing behind them, and with more
	for q, name := range named() {
		for _, rest := range []string{"", "角", " ", "x", "\n", name, "一", "１", "七六", "\x00", "\xff", "\xef\xbc", "\xe4", "角成(88)", strings.Repeat("歩", 1000)} {
			cuts(t, name+rest, q, rest)
		}
	}
}

func TestCutOfNone(t *testing.T) { // P15.2: the text is as it was
	none := func(s string) {
		t.Helper()
		cuts(t, s, -1, s)
	}
	for q, name := range named() {
		for n := range name {
			none(name[:n])
			none(name[n:][1:])
		}
		for n := 1; n < len(name); n++ {
			none(name[:n]) // within a sign, and one sign alone
			none(name[:n] + "\xff" + name[n:])
			none(name[:n] + " " + name[n:])
		}
		for _, x := range []string{" ", "x", "\x00", "\xff", "\uFEFF", "\uFFFD", "同", "０", "〇"} {
			none(x + name)
		}
		file, rank := name[:3], name[3:]
		none(rank + file)
		none(file + file)
		none(rank + rank)
		none(file + "\u0300" + rank)
		none(strconv.Itoa(q/9+1) + rank)
		none(file + strconv.Itoa(q%9+1))
		none(strconv.Itoa(q/9+1) + strconv.Itoa(q%9+1))
		none(strconv.Itoa(q/9+1) + string(rune('a'+q%9)))
	}
	for _, x := range []string{"", "０五", "５０", "５〇", "５零", "５十", "十五", "：五", "５：", "５５角", "同　銀", "\xff\xff", "\uFFFD\uFFFD", "\x00\x00", "五", "５", "\xef\xbc", "\xe4\xba\x94", "\xf0\x8f\xbc\x95五", "５\xf0\x84\xba\x94", "\xef\xbc\xd5五"} {
		none(x)
	}
}

// square is one at the beginning of a text.
var square = regexp.MustCompile(`^([１-９])([一二三四五六七八九])`)

func TestCutOfAnyTexts(t *testing.T) { // P15.2: against what a pattern finds
	d := dice(1)
	parts := strings.Split(signs+words+signs+words+" 0５9x同\n", "")
	parts = append(parts, "\xff", "\xef", "\xbc\x91", "\xe4\xb8", "\uFFFD")
	found := 0
	for range 50000 {
		s := ""
		for range d.below(6) {
			s += parts[d.below(len(parts))]
		}
		if d.below(4) == 0 {
			s = s[:d.below(len(s)+1)]
		}
		want, rest := -1, s
		if m := square.FindStringSubmatch(s); m != nil {
			want = strings.Index(signs, m[1])/3*9 + strings.Index(words, m[2])/3
			rest = s[6:]
			found++
		}
		cuts(t, s, want, rest)
	}
	if found < 2000 || found > 48000 {
		t.Errorf("%d squares", found)
	}
}

func TestPad(t *testing.T) { // P15.3: of numbers with one sign to four, and of others
	for n := -300; n <= 12000; n++ {
		want := ""
		if n >= 0 && n <= 9999 {
			want = fmt.Sprintf("%4d", n)
		}
		if got := digit.Pad(n); got != want {
			t.Errorf("Pad(%d): %q, want %q", n, got, want)
		}
	}
	for _, n := range append([]int{99999, 100000, -9999, -10000}, far...) {
		want := ""
		if n >= 0 && n <= 9999 {
			want = fmt.Sprintf("%4d", n)
		}
		if got := digit.Pad(n); got != want {
			t.Errorf("Pad(%d): %q, want %q", n, got, want)
		}
	}
	for n, want := range map[int]string{0: "   0", 7: "   7", 9: "   9", 10: "  10", 99: "  99", 100: " 100", 999: " 999", 1000: "1000", 9999: "9999", 10000: "", -1: ""} {
		if got := digit.Pad(n); got != want {
			t.Errorf("Pad(%d): %q, want %q", n, got, want)
		}
	}
}

// number are the texts of numbers.
var number = regexp.MustCompile(`^(0|[1-9][0-9]{0,3})$`)

// numbers is a check of Number against a pattern.
func numbers(t *testing.T, s string) {
	t.Helper()
	want := -1
	if number.MatchString(s) {
		want = 0
		for _, x := range s {
			want = 10*want + int(x-'0')
		}
	}
	if got := digit.Number(s); got != want {
		t.Errorf("Number(%q): %d, want %d", s, got, want)
	}
}

func TestNumber(t *testing.T) { // P15.3: of numbers, with noughts and more ahead and behind
	for n := -300; n <= 12000; n++ {
		s := strconv.Itoa(n)
		numbers(t, s)
		want := n
		if n < 0 || n > 9999 {
			want = -1
		}
		if got := digit.Number(s); got != want {
			t.Errorf("Number(%q): %d", s, got)
		}
		for _, x := range []string{"0", "00", " ", "+", "-", "_", ".", "\t", "\n", "\x00", "\xff", "０", "0x", "1_"} {
			numbers(t, x+s)
			numbers(t, s+x)
		}
		if s := digit.Pad(n); n < 1000 && digit.Number(s) != -1 {
			t.Errorf("Number(%q): %d", s, digit.Number(s))
		}
	}
}

func TestNumberOfNone(t *testing.T) { // P15.3: wrong texts
	for _, s := range []string{
		"", " ", "+", "-", ".", "+0", "-0", "+1", "-1", "--1", "00", "01", "0000", "00000", "09999", "10000", "10001", "65536", "65537", "99999", "100000", "4294967296", "4294967297", "9223372036854775807", "9223372036854775808", "18446744073709551616", "18446744073709551617", "-18446744073709551615",
		"1a", "a1", "a", "12a", "0x1", "0b1", "0o7", "1e1", "1.0", "1,0", "1_0", "１", "９９", "1２", "一", "十", "٣", "１0", "\xff", "1\xff", "\xff1", "\x00", "1\x00", ":", "/", "1:", "/1", "\n1", "1\n", " 1", "1 ", "   1", "Inf", "NaN", "nil",
		strings.Repeat("0", 1<<20), strings.Repeat("9", 1<<20), strings.Repeat(" ", 1<<20) + "1",
	} {
		if got := digit.Number(s); got != -1 {
			t.Errorf("Number(%.40q): %d", s, got)
		}
	}
	for s, want := range map[string]int{"0": 0, "1": 1, "9": 9, "10": 10, "100": 100, "1000": 1000, "1001": 1001, "9999": 9999} {
		if got := digit.Number(s); got != want {
			t.Errorf("Number(%q): %d", s, got)
		}
	}
}

func TestNoCallPanics(t *testing.T) { // P1, P2: at any bytes; nothing is kept
	d := dice(2)
	for range 50000 {
		bytes := make([]byte, d.below(9))
		for i := range bytes {
			bytes[i] = byte(d.below(256))
			if d.below(2) == 0 {
				bytes[i] = "0123456789+- \xef\xbc\x91\xe4\xb8\x80"[d.below(19)]
			}
		}
		s := string(bytes)
		numbers(t, s)
		digit.Cut(s)
		n := d.below(math.MaxInt32) << d.below(40)
		for _, n := range []int{n, -n} {
			digit.Full(n)
			digit.Word(n)
			digit.Square(n)
			digit.Pad(n)
			digit.FromFull(rune(n))
			digit.FromWord(rune(n))
		}
	}
	if q, rest := digit.Cut("７六歩(77)"); q != 59 || rest != "歩(77)" || digit.Square(59) != "７六" || digit.Pad(1) != "   1" || digit.Number("77") != 77 {
		t.Error("something is kept")
	}
}
