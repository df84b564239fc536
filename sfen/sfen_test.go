package sfen_test

import (
	"math"
	"regexp"
	"slices"
	"strconv"
	"strings"
	"testing"

	"kakugyo/api"
	"kakugyo/attack"
	"kakugyo/board"
	"kakugyo/sfen"
)

const (
	white = 16
	start = "lnsgkgsnl/1r5b1/ppppppppp/9/9/9/PPPPPPPPP/1B5R1/LNSGKGSNL b - 1"
	kings = "4k4/9/9/9/9/9/9/9/4K4"
)

// dice are numbers without a pattern, the same ones in each run.
type dice uint64

func (d *dice) below(n int) int {
	*d = *d*6364136223846793005 + 1442695040888963407
	return int(uint64(*d) >> 33 % uint64(n))
}

// pieces are all names, and what they are names of.
var pieces = map[string]api.Piece{
	"P": 1, "L": 2, "N": 3, "S": 4, "G": 5, "B": 6, "R": 7, "K": 8, "+P": 9, "+L": 10, "+N": 11, "+S": 12, "+B": 14, "+R": 15,
	"p": 17, "l": 18, "n": 19, "s": 20, "g": 21, "b": 22, "r": 23, "k": 24, "+p": 25, "+l": 26, "+n": 27, "+s": 28, "+b": 30, "+r": 31,
}

// named are the same, the other way about.
func named() map[api.Piece]string {
	names := map[api.Piece]string{0: "."}
	for name, x := range pieces {
		names[x] = name
	}
	return names
}

var (
	dots   = regexp.MustCompile(`\.+`)
	whole  = regexp.MustCompile(`^([^ ]*) ([bw]) ([^ ]*) ([1-9][0-9]{0,3})$`)
	ranks  = regexp.MustCompile(`^([1-9]|\+[PLNSBRplnsbr]|[PLNSGBRKplnsgbrk])+$`)
	double = regexp.MustCompile(`[0-9][0-9]`)
	square = regexp.MustCompile(`\.|\+?[A-Za-z]`)
	hands  = regexp.MustCompile(`^(([1-9]|1[0-8])?[PLNSGBRplnsgbr])+$`)
	held   = regexp.MustCompile(`([0-9]*)([A-Za-z])`)
)

// printed is P13.1 told by dots for free squares, which are counted then.
func printed(p api.Position, number int) string {
	if number < 1 || number > 9999 || attack.Check(p) != api.OK {
		return ""
	}
	names := named()
	var lines []string
	for rank := range 9 {
		line := ""
		for q := 72 + rank; q >= 0; q -= 9 {
			line += names[p.Board[q]]
		}
		lines = append(lines, dots.ReplaceAllStringFunc(line, func(s string) string { return strconv.Itoa(len(s)) }))
	}
	hand := ""
	for _, letter := range "RBGSNLPrbgsnlp" {
		x := pieces[string(letter)]
		switch n := p.Hands[x/white][x%white]; {
		case n == 1:
			hand += string(letter)
		case n > 1:
			hand += strconv.Itoa(int(n)) + string(letter)
		}
	}
	if hand == "" {
		hand = "-"
	}
	return strings.Join(lines, "/") + " " + "bw"[p.Side:p.Side+1] + " " + hand + " " + strconv.Itoa(number)
}

// boardOf is the board of a first part; false: it is none.
func boardOf(s string) (b [api.Squares]api.Piece, ok bool) {
	lines := strings.Split(s, "/")
	if len(lines) != 9 {
		return b, false
	}
	for rank, line := range lines {
		if !ranks.MatchString(line) || double.MatchString(line) {
			return b, false
		}
		for n := '1'; n <= '9'; n++ {
			line = strings.ReplaceAll(line, string(n), strings.Repeat(".", int(n-'0')))
		}
		squares := square.FindAllString(line, -1)
		if len(squares) != 9 {
			return b, false
		}
		for n, name := range squares {
			b[9*(8-n)+rank] = pieces[name]
		}
	}
	return b, true
}

// handsOf are the hands of a third part; false: it is none.
func handsOf(s string) (h [2][8]int8, ok bool) {
	if s == "-" {
		return h, true
	}
	if !hands.MatchString(s) {
		return h, false
	}
	for _, one := range held.FindAllStringSubmatch(s, -1) {
		x := pieces[one[2]]
		if h[x/white][x%white] != 0 {
			return h, false
		}
		n, err := strconv.Atoi(one[1])
		if err != nil {
			n = 1
		}
		h[x/white][x%white] = int8(n)
	}
	return h, true
}

// parsed is P13.2 told by patterns.
func parsed(s string) (api.Position, int, api.Errno) {
	if len(s) > 200 {
		return api.Position{}, 0, api.ErrLong
	}
	parts := whole.FindStringSubmatch(s)
	if parts == nil {
		return api.Position{}, 0, api.ErrForm
	}
	b, isBoard := boardOf(parts[1])
	h, isHands := handsOf(parts[3])
	if !isBoard || !isHands {
		return api.Position{}, 0, api.ErrForm
	}
	p := api.Position{Board: b, Hands: h, Side: int8(strings.Index("bw", parts[2]))}
	if e := attack.Check(p); e != api.OK {
		return api.Position{}, 0, e
	}
	number, _ := strconv.Atoi(parts[4])
	return p, number, api.OK
}

// proper is a position that passes layer 8's Check, with few pieces or many, and few in hand or many.
func proper(d *dice) api.Position {
	const kinds = "\x01\x02\x03\x04\x05\x06\x07\x09\x0a\x0b\x0c\x0e\x0f"
	var p api.Position
	for attack.Check(p) != api.OK {
		p = api.Position{Side: int8(d.below(2))}
		p.Board[d.below(api.Squares)] = api.King
		p.Board[d.below(api.Squares)] = api.King + white
	}
	for range d.below(120) {
		next := p
		next.Board[d.below(api.Squares)] = api.Piece(kinds[d.below(len(kinds))]) + api.Piece(white*d.below(2))
		if attack.Check(next) == api.OK {
			p = next
		}
	}
	for range d.below(3) * d.below(20) {
		next := p
		next.Hands[d.below(2)][1+d.below(7)] += int8(1 + d.below(3))
		if attack.Check(next) == api.OK {
			p = next
		}
	}
	return p
}

// raw is a position of any numbers.
func raw(d *dice) api.Position {
	var p api.Position
	full := 1 + d.below(10)
	for q := range p.Board {
		if d.below(10) < full {
			p.Board[q] = api.Piece(d.below(34))
		}
		if d.below(20) == 0 {
			p.Board[q] = api.Piece(d.below(256))
		}
	}
	for side := range p.Hands {
		for kind := range p.Hands[side] {
			p.Hands[side][kind] = int8(d.below(256))
		}
	}
	p.Side = int8(d.below(256))
	return p
}

// number is the number of a move: as great as it may be, as small, or any.
func number(d *dice) int {
	return []int{1, 9, 10, 99, 100, 999, 1000, 9999, 1 + d.below(9999), 1 + d.below(100)}[d.below(10)]
}

func TestPrint(t *testing.T) { // P13.1, P13.3: any positions that pass layer 8's Check
	d := dice(1)
	longest := 0
	for range 4000 {
		p, n := proper(&d), number(&d)
		got := sfen.Print(p, n)
		if want := printed(p, n); got != want {
			t.Fatalf("Print(%v, %d): %q, want %q", p, n, got, want)
		}
		if back, number, e := sfen.Parse(got); e != api.OK || back != p || number != n {
			t.Fatalf("Parse(%q): %v %d %v, want %v", got, back, number, e, p)
		}
		longest = max(longest, len(got))
	}
	if longest < 95 {
		t.Errorf("the longest text has %d bytes only", longest)
	}
}

// rows are texts as Print answers them, with what is in hand and on some squares.
var rows = []struct {
	name, text string
	number     int
	side       int8
	hands      [2][8]int8
	pieces     map[int]api.Piece
}{
	{"ranks that are free, and kings alone", kings + " b - 1", 1, 0, [2][8]int8{}, map[int]api.Piece{36: 24, 44: 8}},
	{"White to move", kings + " w - 2", 2, 1, [2][8]int8{}, map[int]api.Piece{36: 24, 44: 8}},
	{"the first file and the last one", "8k/9/9/9/9/9/9/9/K8 b - 9999", 9999, 0, [2][8]int8{}, map[int]api.Piece{0: 24, 80: 8}},
	{"the other way about", "K8/9/9/9/9/9/9/9/8k b - 10", 10, 0, [2][8]int8{}, map[int]api.Piece{72: 8, 8: 24}},
	{"free at the beginning, and at the end", "k7s/S7G/1PP6/6ll1/9/9/9/9/G7K w - 100", 100, 1, [2][8]int8{}, map[int]api.Piece{72: 24, 0: 20, 73: 4, 1: 5, 65: 1, 56: 1, 21: 18, 12: 18, 80: 5, 8: 8}},
	{"free between, once and often", "k1s1s1n1n/9/9/9/9/9/9/9/N1N1S1S1K b - 7", 7, 0, [2][8]int8{}, map[int]api.Piece{72: 24, 54: 20, 36: 20, 18: 19, 0: 19, 80: 3, 62: 3, 44: 4, 26: 4, 8: 8}},
	{"pieces alone", "lnsgkgsnl/9/ppppppppp/9/9/9/PPPPPPPPP/9/LNSGKGSNL b - 1", 1, 0, [2][8]int8{}, map[int]api.Piece{72: 18, 0: 18, 74: 17, 2: 17, 78: 1, 6: 1, 80: 2, 44: 8}},
	{"promoted pieces of both sides", "k8/9/+P+L+N+S5/7+B+R/9/9/+p+l+n+s5/7+b+r/8K b - 1", 1, 0, [2][8]int8{}, map[int]api.Piece{74: 9, 65: 10, 56: 11, 47: 12, 12: 14, 3: 15, 78: 25, 69: 26, 60: 27, 51: 28, 16: 30, 7: 31}},
	{"promoted pieces alone", "+P+P+P+P+P+P+P+P+P/9/3k5/9/9/9/9/9/3K4+p w - 1", 1, 1, [2][8]int8{}, map[int]api.Piece{72: 9, 0: 9, 8: 25, 47: 24, 53: 8}},
	{"one in hand", kings + " b P 1", 1, 0, [2][8]int8{{1: 1}}, nil},
	{"one in White's hand", kings + " b p 1", 1, 0, [2][8]int8{1: {1: 1}}, nil},
	{"two in hand", kings + " b 2R 1", 1, 0, [2][8]int8{{7: 2}}, nil},
	{"ten in hand", kings + " w 10P 1", 1, 1, [2][8]int8{{1: 10}}, nil},
	{"all pawns in hand", kings + " b 18P 1", 1, 0, [2][8]int8{{1: 18}}, nil},
	{"all pawns in White's hand", kings + " b 18p 1", 1, 0, [2][8]int8{1: {1: 18}}, nil},
	{"one of each kind", kings + " b RBGSNLP 1", 1, 0, [2][8]int8{{1: 1, 2: 1, 3: 1, 4: 1, 5: 1, 6: 1, 7: 1}}, nil},
	{"one of each kind, of both sides", kings + " b RBGSNLPrbgsnlp 1", 1, 0, [2][8]int8{{1: 1, 2: 1, 3: 1, 4: 1, 5: 1, 6: 1, 7: 1}, {1: 1, 2: 1, 3: 1, 4: 1, 5: 1, 6: 1, 7: 1}}, nil},
	{"all that there is, in White's hand", kings + " w 2r2b4g4s4n4l18p 1", 1, 1, [2][8]int8{1: {1: 18, 2: 4, 3: 4, 4: 4, 5: 4, 6: 2, 7: 2}}, nil},
	{"some of one, some of the other", kings + " w G3N2Pn10p 57", 57, 1, [2][8]int8{{1: 2, 3: 3, 5: 1}, {1: 10, 3: 1}}, nil},
}

func TestRows(t *testing.T) { // P13.1, P13.2, P13.3: written by hand
	for _, r := range rows {
		p, n, e := sfen.Parse(r.text)
		if e != api.OK || n != r.number || p.Side != r.side || p.Hands != r.hands {
			t.Errorf("%s: %v %d %v", r.name, p, n, e)
			continue
		}
		for q, x := range r.pieces {
			if p.Board[q] != x {
				t.Errorf("%s: %d stands on %d, not %d", r.name, p.Board[q], q, x)
			}
		}
		if got := sfen.Print(p, n); got != r.text {
			t.Errorf("%s: %q, want %q", r.name, got, r.text)
		}
	}
}

func TestTheStart(t *testing.T) { // P13.1, P13.2: the chapter's example
	if got := sfen.Print(board.Start(), 1); got != start {
		t.Errorf("Print: %q", got)
	}
	if p, n, e := sfen.Parse(start); p != board.Start() || n != 1 || e != api.OK {
		t.Errorf("Parse: %v %d %v", p, n, e)
	}
}

// put is a position with kings, and with pieces on squares.
func put(pieces map[int]api.Piece) api.Position {
	var p api.Position
	p.Board[36], p.Board[44] = api.King+white, api.King
	for q, x := range pieces {
		p.Board[q] = x
	}
	return p
}

func TestPrintRefused(t *testing.T) { // P13.1: what can't be, and numbers of no move
	side, below, none, many := put(nil), put(nil), put(nil), put(nil)
	side.Side, below.Hands[0][1], none.Hands[1][0], many.Hands[1][7] = 2, -1, 1, 3
	refused := []struct {
		p    api.Position
		want api.Errno
	}{
		{side, api.ErrRange}, {below, api.ErrPiece}, {none, api.ErrPiece}, {many, api.ErrCount},
		{put(map[int]api.Piece{3: 13}), api.ErrPiece}, {put(map[int]api.Piece{3: -1}), api.ErrPiece}, {put(map[int]api.Piece{3: 32}), api.ErrPiece},
		{api.Position{}, api.ErrKings}, {put(map[int]api.Piece{36: 0}), api.ErrKings}, {put(map[int]api.Piece{3: 8}), api.ErrKings},
		{put(map[int]api.Piece{0: 1}), api.ErrDead}, {put(map[int]api.Piece{7: 19}), api.ErrDead},
		{put(map[int]api.Piece{3: 1, 5: 1}), api.ErrNifu}, {put(map[int]api.Piece{39: 2}), api.ErrCheck},
	}
	for _, r := range refused {
		if e := attack.Check(r.p); e != r.want {
			t.Errorf("%v: %v, want %v", r.p, e, r.want)
		}
		if got := sfen.Print(r.p, 1); got != "" {
			t.Errorf("Print of %v: %q", r.want, got)
		}
	}
	inCheck := put(map[int]api.Piece{39: 2})
	inCheck.Side = api.White
	if got := sfen.Print(inCheck, 3); got != "4k4/9/9/4L4/9/9/9/9/4K4 w - 3" {
		t.Errorf("in check, on its own turn: %q", got)
	}
	for _, n := range []int{0, -1, -9999, 10000, 10001, 99999, 1<<16 + 1, 1 << 32, 1<<32 + 1, -1<<32 + 1, math.MinInt, math.MinInt + 1, math.MaxInt} {
		if got := sfen.Print(board.Start(), n); got != "" {
			t.Errorf("Print with %d: %q", n, got)
		}
	}
	for _, n := range []int{1, 9, 10, 99, 100, 999, 1000, 9998, 9999} {
		if got, want := sfen.Print(board.Start(), n), strings.TrimSuffix(start, "1")+strconv.Itoa(n); got != want {
			t.Errorf("Print with %d: %q", n, got)
		}
	}
}

// changed is a text in which some signs are others, are missing, or stand there twice.
func changed(d *dice, s string) string {
	const signs = "PLNSGBRKplnsgbrk++++//  --0123456789bw"
	for range 1 + d.below(3) {
		at := d.below(len(s) + 1)
		end := min(at+d.below(3), len(s))
		piece := signs[d.below(len(signs)):]
		switch d.below(6) {
		case 0:
			s = s[:at] + s[end:]
		case 1:
			s = s[:at] + piece[:1] + s[at:]
		case 2:
			s = s[:at] + piece[:1] + s[end:]
		case 3:
			s = s[:end] + s[at:]
		case 4:
			s = s[:at] + string(rune(d.below(0x3000))) + s[end:]
		case 5:
			s = s[:at] + string([]byte{byte(d.below(256))}) + s[end:]
		}
	}
	return s
}

// otherRanks is a text whose ranks are told otherwise, with the same squares or with others.
func otherRanks(d *dice, s string) string {
	parts := strings.SplitN(s, " ", 2)
	lines := strings.Split(parts[0], "/")
	at := d.below(9)
	lines[at] = ""
	for left := 9; left > 0; {
		if n := 1 + d.below(left); d.below(2) == 0 {
			lines[at] += strconv.Itoa(n)
			left -= n
		} else {
			name := "PLNSGBRplnsgbr"[d.below(14):][:1]
			lines[at] += []string{name, "+" + name, name}[d.below(3)]
			left--
		}
	}
	return strings.Join(lines, "/") + " " + parts[1]
}

// otherHands is a text with other hands, in any order.
func otherHands(d *dice, s string) string {
	parts := strings.Split(s, " ")
	letters := strings.Split("RBGSNLPrbgsnlp", "")
	hand := ""
	for range d.below(8) {
		at := d.below(len(letters))
		n := []string{"", "", "", "1", "2", "02", "0", "10", "18", "19", strconv.Itoa(d.below(5))}[d.below(11)]
		hand += n + letters[at]
		if d.below(8) > 0 {
			letters = slices.Delete(letters, at, at+1)
		}
	}
	parts[2] = hand
	return strings.Join(parts, " ")
}

// same is a check of Parse against what the chapter says.
func same(t *testing.T, s string) api.Errno {
	t.Helper()
	p, n, e := sfen.Parse(s)
	wantP, wantN, want := parsed(s)
	if p != wantP || n != wantN || e != want {
		t.Fatalf("Parse(%q): %v %d %v, want %v %d %v", s, p, n, e, wantP, wantN, want)
	}
	if e == api.OK {
		// It is written in one form, whichever it had.
		again := sfen.Print(p, n)
		if q, m, e := sfen.Parse(again); again != printed(p, n) || q != p || m != n || e != api.OK {
			t.Fatalf("Print of what %q says: %q", s, again)
		}
	}
	return e
}

func TestParse(t *testing.T) { // P13.2, P13.3: any texts that are nearly right
	d := dice(2)
	seen := map[api.Errno]int{}
	for range 3000 {
		s := printed(proper(&d), number(&d))
		for range 6 {
			seen[same(t, changed(&d, s))]++
			seen[same(t, otherRanks(&d, s))]++
			seen[same(t, otherHands(&d, s))]++
		}
		bytes := make([]byte, d.below(210))
		for i := range bytes {
			bytes[i] = byte(d.below(256))
		}
		seen[same(t, string(bytes))]++
	}
	for _, e := range []api.Errno{api.OK, api.ErrLong, api.ErrForm, api.ErrKings, api.ErrCount, api.ErrDead, api.ErrNifu, api.ErrCheck} {
		if seen[e] < 20 {
			t.Errorf("%v was the answer %d times only", e, seen[e])
		}
	}
}

// expect is a check of one answer to many texts.
func expect(t *testing.T, want api.Errno, texts ...string) {
	t.Helper()
	for _, s := range texts {
		if _, _, e := sfen.Parse(s); e != want {
			t.Errorf("Parse(%q): %v, want %v", s, e, want)
		}
		same(t, s)
	}
}

// each are texts that have one of the words, parted by blanks, between what is ahead and what is behind.
func each(ahead, words, behind string) []string {
	var texts []string
	for _, word := range strings.Split(words, " ") {
		texts = append(texts, ahead+word+behind)
	}
	return texts
}

func TestParts(t *testing.T) { // P13.2: of no part, three and five; blanks side by side, at the beginning and at the end
	expect(t, api.OK, kings+" b - 1")
	expect(t, api.ErrForm, "", " ", "   ", kings, kings+" b", kings+" b -", kings+" b 1", kings+" - 1", "b - 1", kings+" b - 1 1", kings+" b - - 1", "sfen "+kings+" b - 1")
	expect(t, api.ErrForm, " "+kings+" b - 1", kings+" b - 1 ", kings+"  b - 1", kings+" b  - 1", kings+" b -  1", " b - 1", kings+"  - 1", kings+" b  1", kings+" b - ")
	expect(t, api.ErrForm, kings+"\tb - 1", kings+" b - 1\n", kings+" b\u00a0- 1", kings+"\x00b - 1", kings+" - b 1", "b "+kings+" - 1")
}

func TestRanks(t *testing.T) { // P13.2: fewer and more than nine ranks, and what parts them
	for n := range 12 {
		want := api.ErrForm
		if n == 7 {
			want = api.OK
		}
		expect(t, want, "4k4"+strings.Repeat("/9", n)+"/4K4 b - 1")
	}
	expect(t, api.ErrForm, each("", "- / 9 //////// ///////// /"+kings+" "+kings+"/ "+kings+"/9 9/"+kings, " b - 1")...)
	expect(t, api.ErrForm, "4k4-9/9/9/9/9/9/9/4K4 b - 1", "4k4\\9/9/9/9/9/9/9/4K4 b - 1", "4k4/9/9/9/9/9/9/94K4 b - 1", "4k4/9/9/9 9/9/9/9/4K4 b - 1")
}

func TestSquares(t *testing.T) { // P13.2: of a rank with fewer and with more than nine squares, of digits and of pluses
	right := "9 8P P8 1P7 7P1 3P5 P7p PPPPPPPPP P1P1P1P1P 1P1P1P1P1 +P8 8+P 4+p4 +P+P+P+P+P+P+P+P+P 1+N+s1+l3+r +R7+b G7g"
	expect(t, api.OK, each("4k4/9/9/", right, "/9/9/9/9/4K4 b - 1")...)
	wrong := "8 1 0 10 7P P7 8PP PP8 9P P9 9P9 5P5 PPPPPPPP PPPPPPPPPP 8+PP +P9 +P7 +P+P+P+P+P+P+P+P +P+P+P+P+P+P+P+P+P+P"
	digits := "81 18 45 111111111 54 99 09 90 009 00 P0P7 P08 P80 0PPPPPPPPP 1P16P P44 44P 12+P6 ９ 八P"
	pluses := "+9 9+ + ++ +8P 8P+ 8+ P+8 4+4 4+4P ++P8 8++P +P+8 +G8 8+G +g8 8+g +K8 +k8 4+G4 +0P8 P8+"
	others := "X8 8x Ｐ8 歩8 8歩 8\xff \xff8 8\x00 \x00\x009 8- -8 8* 8w 4O4 PPPPPPPPPX 9X +X8 : 8: :8 8;"
	for _, words := range []string{wrong, digits, pluses, others} {
		expect(t, api.ErrForm, each("4k4/9/9/", words, "/9/9/9/9/4K4 b - 1")...)
		expect(t, api.ErrForm, each("", words, "/4k4/9/9/9/9/9/9/4K4 b - 1")...)
		expect(t, api.ErrForm, each("4k4/9/9/9/9/9/9/4K4/", words, " b - 1")...)
	}
	expect(t, api.ErrForm, "4k4/9/9/8/19/9/9/9/4K4 b - 1", "4k4/9/8+/P9/9/9/9/9/4K4 b - 1", "4+k4/9/9/9/9/9/9/9/4K4 b - 1", "4k4/9/9/9/9/9/9/9/4+K4 b - 1")
}

func TestTurns(t *testing.T) { // P13.2
	expect(t, api.OK, kings+" b - 1", kings+" w - 1")
	expect(t, api.ErrForm, each(kings+" ", "x B W bw bb ww 0 1 - b- white \xff ｂ", " - 1")...)
}

func TestHands(t *testing.T) { // P13.2: in any order, each at most once, with numbers and without
	right := "- P p Pp pP 1P 2P 9P 10P 11P 17P 18P 18p 1P1p 9P9p 9p9P R2P 2PR PR p2P 1r1b1g1s1n1l1p plnsgbrPLNSGBR 2r2b4g4s4n4l18p 2R2B4G4S4N4L18P bPnRgLs"
	expect(t, api.OK, each(kings+" b ", right, " 1")...)
	numbers := "0P 00P 01P 02P 09P 010P 018P 19P 20P 21P 99P 100P 118P 180P 255P 256P 257P 4294967297P 18446744073709551617P 0p P0R P02R R00P 19r :P 1:P / /P ;P"
	twice := "PP pp 2PP P2P 1P1P 9P9P PRP RPR p2Pp PpP PPp 2P2P rbgsnlpr RBGSNLPR rRr"
	missing := "2 P2 18 0 1 P18 P0 R1P2 -- P- -P -1 1- 2-"
	others := "K k 2K Kk PK KP 1k +P P+P +2P 2+P -2P X 2X P/R 9/9 歩 2歩 \xff P\xff ２P 1.P 1,P Ｐ \x00 b2 wP"
	for _, words := range []string{numbers, twice, missing, others} {
		expect(t, api.ErrForm, each(kings+" b ", words, " 1")...)
		expect(t, api.ErrForm, each(kings+" w ", words, " 1")...)
	}
}

func TestNumbers(t *testing.T) { // P13.2: from 1 to 9999, without noughts ahead or a sign
	for n := range 10020 {
		s := kings + " b - " + strconv.Itoa(n)
		_, got, e := sfen.Parse(s)
		if right := n >= 1 && n <= 9999; right != (e == api.OK) || right && got != n || !right && got != 0 {
			t.Errorf("Parse(%q): %d %v", s, got, e)
		}
	}
	noughts := "0 00 000 0000 01 001 0001 00001 02 010 09999 00010"
	great := "10000 10001 19999 99999 65537 4294967297 18446744073709551617 99999999999999999999999999"
	signs := "+1 -1 +0 -0 - + 1+ 1- 1. 1.0 1,0 1a a1 a 0x1 1_0 1e1 １ 一 \xff 1\xff \xff1 1\x00 b : 1: :1 / 1/"
	for _, words := range []string{noughts, great, signs} {
		expect(t, api.ErrForm, each(kings+" b - ", words, "")...)
	}
}

func TestParseRefused(t *testing.T) { // P13.2: the form is right, and layer 8's Check refuses the position; the form comes first
	expect(t, api.ErrKings, "9/9/9/9/9/9/9/9/4K4 b - 1", "4k4/9/9/9/9/9/9/9/9 b - 1", "9/9/9/9/9/9/9/9/9 w - 9999", "4k4/9/9/9/9/9/9/9/3KK4 b - 1", "9/9/9/9/9/9/9/9/9 b 18R 1")
	expect(t, api.ErrCount, each(kings+" b ", "3R 3r 5G 18p18P 18R 18r 2R2rGg 2Rr 4L4l 3B 5n", " 1")...)
	expect(t, api.ErrCount, "4k4/8+R/9/9/9/9/9/9/4K4 b Rr 1", "4k4/+P8/9/9/9/9/9/9/4K4 b 18P 1")
	expect(t, api.ErrDead, "P3k4/9/9/9/9/9/9/9/4K4 b - 1", "4k4/8N/9/9/9/9/9/9/4K4 b - 1", "4k4/9/9/9/9/9/9/9/ppppKpppp b - 1")
	expect(t, api.ErrNifu, "4k4/9/9/8P/9/8P/9/9/4K4 b - 1", "4k4/9/9/p8/p8/9/9/9/4K4 w - 1")
	expect(t, api.ErrCheck, "4k4/4L4/9/9/9/9/9/9/4K4 b - 1", "4k4/9/9/9/9/9/9/4g4/4K4 w - 1")
	expect(t, api.OK, "4k4/4L4/9/9/9/9/9/9/4K4 w - 1", "4k4/9/9/9/9/9/9/4g4/4K4 b - 1", "4k4/+P8/9/9/9/9/9/9/4K4 b 17P 1")
	expect(t, api.ErrForm, "9/9/9/9/9/9/9/9/9 b - 0", "4k4/4L4/9/9/9/9/9/9/4K4 b PP 1", "4k4/4L4/9/9/9/9/9/9/4K4 x - 1", kings+" b 3R 10000", kings+" b 3RR 1")
}

func TestParseOfLongTexts(t *testing.T) { // P13.2: with 200 bytes and more
	// Its form is right, as far as forms go: each square is taken by a promoted piece.
	full := strings.TrimSuffix(strings.Repeat(strings.Repeat("+P", 9)+"/", 9), "/")
	room := 200 - len(full) - len(" b  1")
	hand := "18R18B18G18S18N18L18P18r18b18g18s18n18l18p"[:room-room%3]
	number := strings.Repeat("1", 1+room%3)
	just := full + " b " + hand + " " + number
	rows := []struct {
		s    string
		want api.Errno
	}{
		{just, api.ErrKings}, {just + "1", api.ErrLong}, {just[:199] + "x", api.ErrForm}, {just + " ", api.ErrLong}, {strings.Repeat(" ", 200), api.ErrForm}, {strings.Repeat(" ", 201), api.ErrLong},
		{strings.Repeat("歩", 66) + "  ", api.ErrForm}, {strings.Repeat("歩", 67), api.ErrLong}, {strings.Repeat("\xff", 200), api.ErrForm}, {strings.Repeat("\xff", 201), api.ErrLong}, {strings.Repeat("9/", 1<<20), api.ErrLong},
		{start + strings.Repeat(" ", 200-len(start)), api.ErrForm}, {start + strings.Repeat(" ", 201-len(start)), api.ErrLong},
	}
	if len(just) != 200 || sfen.MaxText != 200 {
		t.Errorf("%d bytes", len(just))
	}
	for _, r := range rows {
		if _, _, e := sfen.Parse(r.s); e != r.want {
			t.Errorf("Parse(%q): %v, want %v", r.s, e, r.want)
		}
		same(t, r.s)
	}
}

func TestOneForm(t *testing.T) { // P13.3: whichever form it had
	rows := [][2]string{
		{kings + " b PR 1", kings + " b RP 1"}, {kings + " b 1P 1", kings + " b P 1"}, {kings + " w p2Pn1G10l 57", ""}, {kings + " w p2Pn1G4l 57", kings + " w G2Pn4lp 57"},
		{kings + " b plnsgbrPLNSGBR 9", kings + " b RBGSNLPrbgsnlp 9"}, {kings + " b 1p1l1n1s1g1b1r 9", kings + " b rbgsnlp 9"}, {kings + " b 9p9P 9999", kings + " b 9P9p 9999"},
	}
	for _, r := range rows {
		p, n, e := sfen.Parse(r[0])
		if (e == api.OK) != (r[1] != "") || sfen.Print(p, n) != r[1] {
			t.Errorf("%q: %q, %v, want %q", r[0], sfen.Print(p, n), e, r[1])
		}
	}
}

func TestNoCallPanics(t *testing.T) { // P1, P2: at any arguments; nothing is kept
	d := dice(3)
	for range 3000 {
		p, n := raw(&d), d.below(12000)-1000
		before := p
		if got := sfen.Print(p, n); got != printed(p, n) || p != before {
			t.Fatalf("Print(%v, %d): %q", p, n, got)
		}
		bytes := make([]byte, d.below(300))
		for i := range bytes {
			bytes[i] = "PLNSGBRKplnsgbrk+/ -0123456789bw\xff"[d.below(33)]
		}
		same(t, string(bytes))
		if p, n, e := sfen.Parse(start); p != board.Start() || n != 1 || e != api.OK {
			t.Fatal("something is kept")
		}
	}
}
