package kif_test

import (
	"fmt"
	"math"
	"regexp"
	"slices"
	"strings"
	"testing"

	"kakugyo/api"
	"kakugyo/attack"
	"kakugyo/board"
	"kakugyo/game"
	"kakugyo/kif"
	"kakugyo/legal"
	"kakugyo/sfen"
)

const (
	white = 16
	even  = "手合割：平手\n"
	other = "開始局面："
	rule  = "手数----指手---------\n"
	head  = even + rule
	kinds = "歩香桂銀金角飛玉と杏圭全無馬龍"
	files = "１２３４５６７８９"
	ranks = "一二三四五六七八九"
)

// ends are the words of the states, from 0 on.
var ends = [6]string{"", "詰み", "千日手", "反則負け", "投了", "中断"}

// dice are numbers without a pattern, the same ones in each run.
type dice uint64

func (d *dice) below(n int) int {
	*d = *d*6364136223846793005 + 1442695040888963407
	return int(uint64(*d) >> 33 % uint64(n))
}

// sign is the one at a place of a text, from 0 on.
func sign(text string, n int) string { return string([]rune(text)[n]) }

// after is the position behind a legal move.
func after(p api.Position, m api.Move) api.Position {
	side := p.Side
	p.Side = 1 - side
	if m.Drop != 0 {
		p.Hands[side][m.Drop]--
		p.Board[m.To] = api.Piece(m.Drop) + api.Piece(white*side)
		return p
	}
	if x := p.Board[m.To]; x != 0 {
		p.Hands[side][x%8]++
	}
	p.Board[m.To], p.Board[m.From] = p.Board[m.From], 0
	if m.Promote {
		p.Board[m.To] += api.Promoted
	}
	return p
}

// told is P16.1's Move.
func told(p api.Position, m api.Move, last int) string {
	to := "同\u3000"
	if m.To != last {
		to = sign(files, m.To/9) + sign(ranks, m.To%9)
	}
	if m.Drop != 0 {
		return to + sign(kinds, m.Drop-1) + "打"
	}
	promotes := ""
	if m.Promote {
		promotes = "成"
	}
	return fmt.Sprintf("%s%s%s(%d%d)", to, sign(kinds, int(p.Board[m.From])%white-1), promotes, m.From/9+1, m.From%9+1)
}

// record is P16.2's Write of a game, told by where it began, its moves, and its state.
func record(p api.Position, list []api.Move, state int) string {
	s := even
	if p != board.Start() {
		s = other + sfen.Print(p, 1) + "\n"
	}
	s += rule
	last := -1
	for n, m := range list {
		s += fmt.Sprintf("%4d %s\n", n+1, told(p, m, last))
		p, last = after(p, m), m.To
	}
	if state != game.Ongoing {
		s += fmt.Sprintf("%4d %s\n", len(list)+1, ends[state])
	}
	return s
}

// moveText is a move without its number: the square, the kind, how it goes, whether it promotes, and the file and rank from which it goes.
var moveText = regexp.MustCompile(`^(?:同\x{3000}|([１-９])([一二三四五六七八九]))([歩香桂銀金角飛玉と杏圭全馬龍])(打|(成?)\(([1-9])([1-9])\))$`)

// place is which sign of a text a sign is, from 0 on.
func place(text, sign string) int { return strings.Index(text, sign) / 3 }

// decoded is the move that a text tells at a position; false: it is written wrong.
func decoded(p api.Position, text string, last int) (m api.Move, ok bool) {
	match := moveText.FindStringSubmatch(text)
	if match == nil {
		return m, false
	}
	if match[1] != "" {
		m.To = 9*place(files, match[1]) + place(ranks, match[2])
		if m.To == last {
			return m, false
		}
	} else if m.To = last; last < 0 {
		return m, false
	}
	kind := place(kinds, match[3]) + 1
	if match[4] == "打" {
		m.Drop = kind
		return m, true
	}
	m.From = 9*int(match[6][0]-'1') + int(match[7][0]-'1')
	m.Promote = match[5] != ""
	return m, int(p.Board[m.From])%white == kind
}

// began is the position of a first line.
func began(line string) (api.Position, api.Errno) {
	if line+"\n" == even {
		return board.Start(), api.OK
	}
	if !strings.HasPrefix(line, other) {
		return api.Position{}, api.ErrForm
	}
	text := line[len(other):]
	p, _, e := sfen.Parse(text)
	if e == api.OK && (p == board.Start() || sfen.Print(p, 1) != text) {
		e = api.ErrForm
	}
	return p, e
}

// asked is P16.3's Read, told by patterns.
func asked(s string) (*game.Game, int, api.Errno) {
	if len(s) > 262144 {
		return nil, 0, api.ErrLong
	}
	lines := strings.Split(s, "\n")
	n := len(lines) - 1
	if n == 0 || lines[n] != "" {
		return nil, n, api.ErrForm
	}
	p, e := began(lines[0])
	if e != api.OK {
		return nil, 0, e
	}
	if n == 1 || lines[1]+"\n" != rule {
		return nil, 1, api.ErrForm
	}
	g, _ := game.New(p)
	last := -1
	for i := 2; i < n; i++ {
		state, _ := g.State()
		text, ok := strings.CutPrefix(lines[i], fmt.Sprintf("%4d ", i-1))
		switch {
		case !ok:
			return nil, i, api.ErrForm
		case i == n-1 && state == game.Ongoing && text == "投了":
			g.Resign()
			return g, 0, api.OK
		case i == n-1 && state != game.Ongoing && text == ends[state]:
			return g, 0, api.OK
		}
		m, ok := decoded(g.Now(), text, last)
		if !ok {
			return nil, i, api.ErrForm
		}
		if e := g.Move(m); e != api.OK {
			return nil, i, e
		}
		last = m.To
	}
	if state, _ := g.State(); state != game.Ongoing {
		return nil, n, api.ErrForm
	}
	return g, 0, api.OK
}

// alike are games with the same start, moves, position and state.
func alike(g, h *game.Game) bool {
	if g == nil || h == nil {
		return g == h
	}
	stateG, loserG := g.State()
	stateH, loserH := h.State()
	return g.Start() == h.Start() && g.Now() == h.Now() && slices.Equal(g.Moves(), h.Moves()) && stateG == stateH && loserG == loserH
}

// same is a check of Read against what the chapter says.
func same(t *testing.T, s string) (int, api.Errno) {
	t.Helper()
	g, n, e := kif.Read(s)
	want, wantN, wantE := asked(s)
	if n != wantN || e != wantE || !alike(g, want) {
		t.Fatalf("Read(%.3000q): %v %d %v, want %v %d %v", s, g, n, e, want, wantN, wantE)
	}
	if e == api.OK && kif.Write(g) != s {
		t.Fatalf("Write of what %q says: %q", s, kif.Write(g))
	}
	return n, e
}

// refused is a check that a text is no record.
func refused(t *testing.T, name, s string, n int, e api.Errno) {
	t.Helper()
	if gotN, got := same(t, s); gotN != n || got != e {
		t.Errorf("%s: %v at %d, want %v at %d: %.3000q", name, got, gotN, e, n, s)
	}
}

// thereAndBack is a check of Write and Read of a game, and answers its record.
func thereAndBack(t *testing.T, name string, g *game.Game) string {
	t.Helper()
	state, loser := g.State()
	start, now, made := g.Start(), g.Now(), g.Moves()
	s := kif.Write(g)
	if want := record(start, made, state); s != want {
		t.Fatalf("%s: Write: %q, want %q", name, s, want)
	}
	if stateNow, loserNow := g.State(); g.Start() != start || g.Now() != now || !slices.Equal(g.Moves(), made) || stateNow != state || loserNow != loser || kif.Write(g) != s {
		t.Errorf("%s: the game is changed", name)
	}
	h, n, e := kif.Read(s)
	if n != 0 || e != api.OK || !alike(g, h) {
		t.Errorf("%s: Read: %v %d %v", name, h, n, e)
	}
	return s
}

// put is a position with pieces on squares.
func put(pieces map[int]api.Piece) api.Position {
	var p api.Position
	for q, x := range pieces {
		p.Board[q] = x
	}
	return p
}

// holding is a position with one of a kind in Black's hand.
func holding(p api.Position, kind int) api.Position {
	p.Hands[0][kind]++
	return p
}

// toMove is a position on White's turn.
func toMove(p api.Position) api.Position {
	p.Side = api.White
	return p
}

// turned is a position seen from the other side.
func turned(p api.Position) api.Position {
	t := api.Position{Hands: [2][8]int8{p.Hands[1], p.Hands[0]}, Side: 1 - p.Side}
	for q, x := range p.Board {
		switch {
		case x > white:
			t.Board[80-q] = x - white
		case x > 0:
			t.Board[80-q] = x + white
		}
	}
	return t
}

// across are moves seen from the other side.
func across(list []api.Move) []api.Move {
	var turned []api.Move
	for _, m := range list {
		m.To = 80 - m.To
		if m.Drop == 0 {
			m.From = 80 - m.From
		}
		turned = append(turned, m)
	}
	return turned
}

// steps are moves on the board, told by two squares each.
func steps(squares ...int) []api.Move {
	var list []api.Move
	for i := 0; i < len(squares); i += 2 {
		list = append(list, api.Move{From: squares[i], To: squares[i+1]})
	}
	return list
}

// K and k are the kings, and so on: Black's are great letters.
const (
	K, k = api.Piece(api.King), api.Piece(api.King + white)
	R, r = api.Piece(api.Rook), api.Piece(api.Rook + white)
	P, w = api.Piece(api.Pawn), api.Piece(api.Pawn + white)
	G, g = api.Piece(api.Gold), api.Piece(api.Gold + white)
	up   = api.Promoted
)

// rook is Black's rook beside White's king, which it checks to and fro; golden is one gold away from a mate.
var (
	rook   = put(map[int]api.Piece{0: k, 80: K, 13: R})
	kings  = put(map[int]api.Piece{0: k, 80: K})
	golden = holding(put(map[int]api.Piece{36: k, 38: P, 80: K}), api.Gold)
	mated  = put(map[int]api.Piece{44: K, 0: k, 43: g, 42: w})
)

var (
	checks  = slices.Repeat(steps(13, 4, 0, 9, 4, 13, 9, 0), 3)
	toFro   = slices.Repeat(steps(16, 25, 64, 55, 25, 16, 55, 64), 3)
	opening = []api.Move{{From: 60, To: 59}, {From: 20, To: 21}, {From: 70, To: 10, Promote: true}, {From: 18, To: 10}, {To: 40, Drop: api.Bishop}}
	goldOn  = []api.Move{{To: 37, Drop: api.Gold}}
)

// ring is a walk of a king around its side's three ranks: 27 squares, or, without one of them, 26.
func ring(short bool) []int {
	var squares []int
	for file := range 9 {
		squares = append(squares, 9*file+8)
	}
	squares = append(squares, 79)
	if !short {
		squares = append(squares, 78)
	}
	squares = append(squares, 69, 70)
	for file := 6; file >= 0; file-- {
		squares = append(squares, 9*file+6, 9*file+7)
	}
	return squares
}

// around are so many moves of two kings alone, on which no position comes the fourth time; and where they begin.
func around(n int) (api.Position, []api.Move) {
	walks := [2][]int{ring(false), ring(true)}
	for i, q := range walks[1] {
		walks[1][i] = 80 - q
	}
	var list []api.Move
	for i := range n {
		walk := walks[i%2]
		list = append(list, steps(walk[i/2%len(walk)], walk[(i/2+1)%len(walk)])...)
	}
	return put(map[int]api.Piece{walks[0][0]: K, walks[1][0]: k}), list
}

func TestEnd(t *testing.T) { // P16.1: of each state, and of numbers that are none
	for n := -300; n <= 300; n++ {
		want := ""
		if n >= 0 && n < 6 {
			want = ends[n]
		}
		if got := kif.End(n); got != want {
			t.Errorf("End(%d): %q, want %q", n, got, want)
		}
	}
	for _, n := range []int{math.MinInt, math.MinInt32, -1 << 32, -1<<32 + 1, 257, 1<<32 + 4, math.MaxInt32, math.MaxInt} {
		if got := kif.End(n); got != "" {
			t.Errorf("End(%d): %q", n, got)
		}
	}
	if kif.End(game.Mated) != "詰み" || kif.End(game.Draw) != "千日手" || kif.End(game.Perpetual) != "反則負け" || kif.End(game.Resigned) != "投了" || kif.End(game.TooLong) != "中断" || kif.End(game.Ongoing) != "" {
		t.Error("the words of the states")
	}
}

func TestMove(t *testing.T) { // P16.1: written by hand
	many := put(map[int]api.Piece{80: K, 0: k, 65: P, 29: P, 57: 2, 48: 3, 39: 4, 30: 5, 20: 6, 11: 7, 64: up + 1, 55: up + 2, 46: up + 3, 37: up + 4, 38: up + 6, 47: up + 7})
	rows := []struct {
		p    api.Position
		m    api.Move
		last int
		want string
	}{
		{board.Start(), api.Move{From: 60, To: 59}, -1, "７六歩(77)"},
		{board.Start(), api.Move{From: 16, To: 43}, -1, "５八飛(28)"},
		{board.Start(), api.Move{From: 44, To: 43}, -1, "５八玉(59)"},
		{board.Start(), api.Move{From: 8, To: 7}, -1, "１八香(19)"},
		{toMove(board.Start()), api.Move{From: 20, To: 21}, 59, "３四歩(33)"},
		{toMove(board.Start()), api.Move{From: 72, To: 73}, 59, "９二香(91)"},
		{many, api.Move{From: 65, To: 64, Promote: true}, -1, "８二歩成(83)"},
		{many, api.Move{From: 29, To: 28}, -1, "４二歩(43)"},
		{many, api.Move{From: 29, To: 28, Promote: true}, -1, "４二歩成(43)"},
		{many, api.Move{From: 29, To: 28, Promote: true}, 28, "同　歩成(43)"},
		{many, api.Move{From: 29, To: 28}, 28, "同　歩(43)"},
		{many, api.Move{From: 29, To: 28}, 29, "４二歩(43)"},
		{many, api.Move{From: 57, To: 56, Promote: true}, 40, "７三香成(74)"},
		{many, api.Move{From: 48, To: 37, Promote: true}, 37, "同　桂成(64)"},
		{many, api.Move{From: 48, To: 55, Promote: true}, 0, "７二桂成(64)"},
		{many, api.Move{From: 39, To: 40}, 40, "同　銀(54)"},
		{many, api.Move{From: 30, To: 21}, 21, "同　金(44)"},
		{many, api.Move{From: 20, To: 0, Promote: true}, 0, "同　角成(33)"},
		{many, api.Move{From: 11, To: 2}, 8, "１三飛(23)"},
		{many, api.Move{From: 11, To: 2, Promote: true}, 2, "同　飛成(23)"},
		{many, api.Move{From: 80, To: 71}, 71, "同　玉(99)"},
		{many, api.Move{From: 64, To: 63}, 71, "８一と(82)"},
		{many, api.Move{From: 55, To: 54}, 54, "同　杏(72)"},
		{many, api.Move{From: 46, To: 45}, -1, "６一圭(62)"},
		{many, api.Move{From: 37, To: 36}, 36, "同　全(52)"},
		{many, api.Move{From: 38, To: 56}, 55, "７三馬(53)"},
		{many, api.Move{From: 47, To: 53}, 53, "同　龍(63)"},
		{many, api.Move{To: 44, Drop: api.Pawn}, -1, "５九歩打"},
		{many, api.Move{To: 44, Drop: api.Lance}, 43, "５九香打"},
		{many, api.Move{To: 80, Drop: api.Knight}, 43, "９九桂打"},
		{many, api.Move{To: 8, Drop: api.Silver}, 43, "１九銀打"},
		{many, api.Move{To: 0, Drop: api.Gold}, 43, "１一金打"},
		{many, api.Move{To: 72, Drop: api.Bishop}, 0, "９一角打"},
		{many, api.Move{To: 40, Drop: api.Rook}, 0, "５五飛打"},
		{many, api.Move{To: 40, Drop: api.Rook}, 40, "同　飛打"},
	}
	for _, row := range rows {
		p := row.p
		if got := kif.Move(p, row.m, row.last); got != row.want || p != row.p {
			t.Errorf("Move(%v, %d): %q, want %q", row.m, row.last, got, row.want)
		}
		// White's are written as Black's are, each on its own squares.
		list := across([]api.Move{row.m})
		if got, want := kif.Move(turned(row.p), list[0], 80-row.last), told(turned(row.p), list[0], 80-row.last); got != want {
			t.Errorf("turned, Move(%v, %d): %q, want %q", list[0], 80-row.last, got, want)
		}
	}
}

// proper is a position that passes layer 8's Check, with few pieces or many.
func proper(d *dice) api.Position {
	const all = "\x01\x02\x03\x04\x05\x06\x07\x09\x0a\x0b\x0c\x0e\x0f"
	var p api.Position
	for attack.Check(p) != api.OK {
		p = api.Position{Side: int8(d.below(2))}
		p.Board[d.below(api.Squares)], p.Board[d.below(api.Squares)] = K, k
	}
	for range d.below(40) {
		next := p
		if d.below(4) > 0 {
			next.Board[d.below(api.Squares)] = api.Piece(all[d.below(len(all))]) + api.Piece(white*d.below(2))
		} else {
			next.Hands[d.below(2)][1+d.below(7)]++
		}
		if attack.Check(next) == api.OK {
			p = next
		}
	}
	return p
}

func TestMovesOfAnyPositions(t *testing.T) { // P16.1: all legal moves, onto the last square and onto another one
	d := dice(1)
	for range 400 {
		p := proper(&d)
		for _, m := range legal.All(board.New(p)) {
			for _, last := range []int{-1, m.To, m.From, (m.To + 1) % api.Squares, d.below(api.Squares)} {
				if got, want := kif.Move(p, m, last), told(p, m, last); got != want {
					t.Fatalf("Move(%v, %v, %d): %q, want %q", p, m, last, got, want)
				}
			}
		}
	}
}

func TestWrite(t *testing.T) { // P16.2, P16.4: written by hand, from the Start and from other positions, of each state
	short, list := around(4096)
	resigned := func(g *game.Game) { g.Resign() }
	goesOn := func(g *game.Game) {}
	rows := []struct {
		name  string
		p     api.Position
		moves []api.Move
		do    func(g *game.Game)
		state int
		want  string // its beginning, or all of it
	}{
		{"the chapter's example", board.Start(), opening[:1], goesOn, game.Ongoing, head + "   1 ７六歩(77)\n"},
		{"no moves", board.Start(), nil, goesOn, game.Ongoing, head},
		{"resigned at once", board.Start(), nil, resigned, game.Resigned, head + "   1 投了\n"},
		{"some moves", board.Start(), opening, goesOn, game.Ongoing, head + "   1 ７六歩(77)\n   2 ３四歩(33)\n   3 ２二角成(88)\n   4 同　銀(31)\n   5 ５五角打\n"},
		{"resigned", board.Start(), opening[:3], resigned, game.Resigned, head + "   1 ７六歩(77)\n   2 ３四歩(33)\n   3 ２二角成(88)\n   4 投了\n"},
		{"a draw", board.Start(), toFro, goesOn, game.Draw, head + "   1 ３八飛(28)\n   2 ７二飛(82)\n   3 ２八飛(38)\n   4 ８二飛(72)\n   5 ３八飛(28)\n"},
		{"another position", kings, nil, goesOn, game.Ongoing, other + "8k/9/9/9/9/9/9/9/K8 b - 1\n" + rule},
		{"White begins", toMove(kings), steps(0, 1), goesOn, game.Ongoing, other + "8k/9/9/9/9/9/9/9/K8 w - 1\n" + rule + "   1 １二玉(11)\n"},
		{"the Start on White's turn", toMove(board.Start()), nil, resigned, game.Resigned, other + "lnsgkgsnl/1r5b1/ppppppppp/9/9/9/PPPPPPPPP/1B5R1/LNSGKGSNL w - 1\n" + rule + "   1 投了\n"},
		{"mated by a drop", golden, goldOn, goesOn, game.Mated, other + "4k4/9/4P4/9/9/9/9/9/K8 b G 1\n" + rule + "   1 ５二金打\n   2 詰み\n"},
		{"mated at the beginning", mated, nil, goesOn, game.Mated, other + "8k/9/9/9/9/9/4p4/4g4/4K4 b - 1\n" + rule + "   1 詰み\n"},
		{"checks all the time", rook, checks, goesOn, game.Perpetual, other + "8k/9/9/9/7R1/9/9/9/K8 b - 1\n" + rule + "   1 １五飛(25)\n   2 ２一玉(11)\n   3 ２五飛(15)\n   4 １一玉(21)\n"},
		{"too long", short, list, goesOn, game.TooLong, other + "k8/9/9/9/9/9/9/9/8K b - 1\n" + rule + "   1 ２九玉(19)\n   2 ８一玉(91)\n   3 ３九玉(29)\n"},
		{"nearly too long", short, list[:4095], goesOn, game.Ongoing, ""},
		{"resigned ahead of that", short, list[:4095], resigned, game.Resigned, ""},
	}
	for _, row := range rows {
		g, _, e := game.Play(row.p, row.moves...)
		if e != api.OK {
			t.Fatalf("%s: %v", row.name, e)
		}
		row.do(g)
		if state, _ := g.State(); state != row.state {
			t.Fatalf("%s: %d, want %d", row.name, state, row.state)
		}
		s := thereAndBack(t, row.name, g)
		if !strings.HasPrefix(s, row.want) || len(row.moves) < 6 && s != row.want {
			t.Errorf("%s: %q, want %q", row.name, s, row.want)
		}
		if row.state != game.Ongoing && !strings.HasSuffix(s, fmt.Sprintf("\n%4d %s\n", len(row.moves)+1, ends[row.state])) {
			t.Errorf("%s ends with %q", row.name, s[len(s)-40:])
		}
	}
}

// played is a game of some moves from p on that are legal.
func played(d *dice, p api.Position, n int) *game.Game {
	g, _ := game.New(p)
	for range n {
		all := legal.All(board.New(g.Now()))
		if len(all) == 0 {
			break
		}
		m := all[d.below(len(all))]
		if made := g.Moves(); len(made) > 0 && d.below(2) == 0 {
			// Oftener than not nothing goes onto the last square, or promotes.
			for _, x := range all {
				if x.To == made[len(made)-1].To || x.Promote && d.below(4) == 0 {
					m = x
				}
			}
		}
		g.Move(m)
	}
	if d.below(3) == 0 {
		g.Resign()
	}
	return g
}

// anyGame is a game from the Start or from any position.
func anyGame(d *dice, n int) *game.Game {
	if d.below(3) == 0 {
		return played(d, board.Start(), d.below(n))
	}
	return played(d, proper(d), d.below(n))
}

func TestAnyGames(t *testing.T) { // P16.2, P16.4: there and back
	d := dice(2)
	states := map[int]int{}
	for range 300 {
		g := anyGame(&d, 60)
		state, _ := g.State()
		states[state]++
		thereAndBack(t, "any", g)
	}
	if states[game.Ongoing] < 50 || states[game.Resigned] < 50 || states[game.Mated] < 5 {
		t.Errorf("%v", states)
	}
}

func TestReadRefusesForms(t *testing.T) { // P16.3: no text, no byte 10 at its end, and lines that are missing ahead of the moves
	one := head + "   1 ７六歩(77)\n"
	rows := []struct {
		name, s string
		line    int
	}{
		{"no text", "", 0},
		{"a byte 10 alone", "\n", 0},
		{"two of them", "\n\n", 0},
		{"no byte 10 at all", "手合割：平手", 0},
		{"no byte 10, and a wrong line", "x", 0},
		{"the heading without a byte 10", even + "手数----指手---------", 1},
		{"a move without a byte 10", strings.TrimSuffix(one, "\n"), 2},
		{"wrong lines, and no byte 10", "x\nx\nx\nx", 3},
		{"a start that can't be, and no byte 10", other + "x\nx", 1},
		{"more behind the last byte 10", one + "x", 3},
		{"a blank behind the last byte 10", one + " ", 3},
		{"a byte 13 ahead of the byte 10", head + "   1 ７六歩(77)\r\n", 2},
		{"a byte 13 behind the first line", "手合割：平手\r\n" + rule, 0},
		{"a byte 13 in the place of the byte 10", head + "   1 ７六歩(77)\r", 2},
		{"a byte 10 more", one + "\n", 3},
		{"a byte 10 more at the beginning", "\n" + one, 0},
		{"a byte 10 more behind the first line", even + "\n" + rule, 1},
		{"a byte 10 more behind the heading", head + "\n   1 ７六歩(77)\n", 2},
		{"the heading alone", rule, 0},
		{"the first line alone", even, 1},
		{"a start alone", other + sfen.Print(kings, 1) + "\n", 1},
		{"no heading", even + "   1 ７六歩(77)\n", 1},
		{"another heading", even + "手数----指手--------\n", 1},
		{"a heading with more behind it", even + "手数----指手---------消費時間--\n", 1},
		{"a blank behind the heading", even + "手数----指手--------- \n", 1},
		{"another handicap", "手合割：香落ち\n" + rule, 0},
		{"more behind it", "手合割：平手　\n" + rule, 0},
		{"a remark ahead", "# x\n" + head, 0},
		{"a sign of what order bytes have", "\uFEFF" + head, 0},
		{"bytes that are no UTF-8", "\xff\xfe\n" + head, 0},
		{"such bytes in a move", head + "   1 ７六\xff(77)\n", 2},
		{"half a sign in a move", head + "   1 ７六\xe6\xad(77)\n", 2},
	}
	for _, row := range rows {
		refused(t, row.name, row.s, row.line, api.ErrForm)
	}
}

func TestReadOfLongTexts(t *testing.T) { // P16.3: with MaxText bytes and more
	fill := func(s string, n int) string { return s + strings.Repeat("x", n-len(s)-1) + "\n" }
	one := head + "   1 ７六歩(77)\n"
	if kif.MaxText != 262144 {
		t.Errorf("MaxText is %d", kif.MaxText)
	}
	refused(t, "just as many", fill(one, 262144), 3, api.ErrForm)
	refused(t, "one more", fill(one, 262145), 0, api.ErrLong)
	refused(t, "just as many, of one line", fill("", 262144), 0, api.ErrForm)
	refused(t, "one more, of one line", fill("", 262145), 0, api.ErrLong)
	refused(t, "just as many, no byte 10 at the end", one+strings.Repeat(" ", 262144-len(one)), 3, api.ErrForm)
	refused(t, "one more, no byte 10 at the end", one+strings.Repeat(" ", 262145-len(one)), 0, api.ErrLong)
	refused(t, "bytes 10 alone", strings.Repeat("\n", 262144), 0, api.ErrForm)
	refused(t, "one more byte 10", strings.Repeat("\n", 262145), 0, api.ErrLong)
	refused(t, "a record with bytes 10 behind it", one+strings.Repeat("\n", 262144-len(one)), 3, api.ErrForm)
	refused(t, "a record with too many bytes 10 behind it", one+strings.Repeat("\n", 262145-len(one)), 0, api.ErrLong)
	refused(t, "signs of three bytes", strings.Repeat("歩", 87381)+"\n", 0, api.ErrForm)
	refused(t, "one sign more", strings.Repeat("歩", 87382)+"\n", 0, api.ErrLong)
	refused(t, "a great many", strings.Repeat(one, 1<<16), 0, api.ErrLong)
}

func TestReadOfStarts(t *testing.T) { // P16.3: the first line
	const two = "4k4/9/9/9/9/9/9/9/4K4 "
	rows := []struct {
		text string
		e    api.Errno
	}{
		{two + "b - 1", api.OK}, {two + "w - 1", api.OK}, {two + "b RP 1", api.OK}, {"4k4/4L4/9/9/9/9/9/9/4K4 w - 1", api.OK},
		{two + "b - 2", api.ErrForm}, {two + "b - 10", api.ErrForm}, {two + "b - 9999", api.ErrForm}, {two + "b - 0", api.ErrForm}, {two + "b - 10000", api.ErrForm}, {two + "b - 01", api.ErrForm}, {two + "b - -1", api.ErrForm}, {two + "b - １", api.ErrForm}, {two + "b -", api.ErrForm},
		{two + "b PR 1", api.ErrForm}, {two + "b 1P 1", api.ErrForm}, {two + "w p2Pn1G 1", api.ErrForm}, {two + "w G2Pnp 1", api.OK}, {two + "b pP 1", api.ErrForm},
		{sfen.Print(board.Start(), 1), api.ErrForm}, {sfen.Print(board.Start(), 2), api.ErrForm}, {sfen.Print(toMove(board.Start()), 1), api.OK},
		{"", api.ErrForm}, {" ", api.ErrForm}, {"平手", api.ErrForm}, {"x", api.ErrForm}, {" " + two + "b - 1", api.ErrForm}, {two + "b - 1 ", api.ErrForm}, {two + " b - 1", api.ErrForm}, {"sfen " + two + "b - 1", api.ErrForm}, {"startpos", api.ErrForm}, {two + "b - 1\r", api.ErrForm},
		{"4k4/9/9/9/9/9/9/9/9 b - 1", api.ErrKings}, {two + "b 3R 1", api.ErrCount}, {"P3k4/9/9/9/9/9/9/9/4K4 b - 1", api.ErrDead}, {"4k4/9/9/8P/9/8P/9/9/4K4 b - 1", api.ErrNifu}, {"4k4/4L4/9/9/9/9/9/9/4K4 b - 1", api.ErrCheck},
		{"9/9/9/9/9/9/9/9/9 b - 2", api.ErrKings}, {two + "b 3R 9999", api.ErrCount}, {"4k4/4L4/9/9/9/9/9/9/4K4 b PR 1", api.ErrCheck},
		{strings.Repeat("x", 200), api.ErrForm}, {strings.Repeat("x", 201), api.ErrLong}, {two + "b - 1" + strings.Repeat(" ", 200), api.ErrLong},
	}
	for _, row := range rows {
		for _, rest := range []string{rule, "", "x\n", rule + "   1 投了\n", rule + "x\n", rule + "   1 ５八玉(59)\n"} {
			s := other + row.text + "\n" + rest
			if row.e != api.OK {
				refused(t, row.text, s, 0, row.e)
			} else {
				same(t, s)
			}
		}
		if _, e := same(t, other+row.text+"\n"+rule); e != row.e {
			t.Errorf("%q: %v, want %v", row.text, e, row.e)
		}
		if row.e == api.OK {
			refused(t, "no sign ahead", row.text+"\n"+rule, 0, api.ErrForm)
			refused(t, "a blank ahead", other+" "+row.text+"\n"+rule, 0, api.ErrForm)
			refused(t, "another sign ahead", "開始局面:"+row.text+"\n"+rule, 0, api.ErrForm)
			refused(t, "half of it ahead", "開始"+row.text+"\n"+rule, 0, api.ErrForm)
		}
	}
}

// opened is the record of the opening, so many moves of it.
func opened(n int) string { return record(board.Start(), opening[:n], game.Ongoing) }

func TestReadOfNumbers(t *testing.T) { // P16.3: of a move, and of the end
	for _, number := range []string{"", " ", "1 ", "  1 ", "    1 ", "     1 ", "   1", "   1  ", "   2 ", "   0 ", "  -1 ", "  +1 ", "  01 ", "0001 ", "1    ", "１ ", "   １ ", "\t1 ", "   1\t", "   1\u3000", " 1   ", "   １", "  11 ", "  10 ", "1001 ", "   1. ", "   1)", "   \xff "} {
		for _, text := range []string{"７六歩(77)", "投了", "７五歩(77)", ""} {
			refused(t, "a wrong number", head+number+text+"\n", 2, api.ErrForm)
			refused(t, "a wrong number, and a right line behind it", head+number+text+"\n   2 ３四歩(33)\n", 2, api.ErrForm)
		}
	}
	for _, number := range []string{"   1 ", "   3 ", "  02 ", "  2 ", "  12 ", "   2"} {
		refused(t, "a wrong number of the second one", opened(1)+number+"３四歩(33)\n", 3, api.ErrForm)
		refused(t, "a wrong number of the end", opened(1)+number+"投了\n", 3, api.ErrForm)
	}
	// The tenth one, the hundredth one, and the thousandth one.
	p, list := around(1001)
	for _, n := range []int{9, 10, 99, 100, 999, 1000} {
		s := record(p, list[:n+1], game.Ongoing)
		same(t, s)
		for _, blanks := range []int{0, 1, 2, 3, 4} {
			wrong := fmt.Sprintf("%s%d ", strings.Repeat(" ", blanks), n+1)
			if right := fmt.Sprintf("%4d ", n+1); wrong != right {
				refused(t, "blanks", strings.Replace(s, "\n"+right, "\n"+wrong, 1), 2+n, api.ErrForm)
			}
		}
	}
}

func TestReadOfMoves(t *testing.T) { // P16.3: a wrong square, sign or kind, and what isn't legal
	rows := []struct {
		made int
		text string
		e    api.Errno
	}{
		{0, "７六歩(77)", api.OK}, {0, "７五歩(77)", api.ErrMove}, {0, "７八歩(77)", api.ErrMove}, {0, "８六歩(77)", api.ErrMove}, {0, "７七歩(77)", api.ErrMove}, {0, "７六歩成(77)", api.ErrMove}, {0, "３四歩(33)", api.ErrMove}, {0, "９九香(99)", api.ErrMove}, {0, "８九香(99)", api.ErrMove},
		{0, "５五歩打", api.ErrMove}, {0, "７六歩打", api.ErrMove}, {0, "７七歩打", api.ErrMove}, {0, "５五玉打", api.ErrMove}, {0, "５五と打", api.ErrMove}, {0, "５五龍打", api.ErrMove}, {0, "５八金成(49)", api.ErrMove}, {0, "５八玉成(59)", api.ErrMove},
		{0, "７六香(77)", api.ErrForm}, {0, "７六と(77)", api.ErrForm}, {0, "７六(77)", api.ErrForm}, {0, "７六歩歩(77)", api.ErrForm}, {0, "７六歩(76)", api.ErrForm}, {0, "７六歩(75)", api.ErrForm}, {0, "７六歩(88)", api.ErrForm}, {0, "７六歩", api.ErrForm}, {0, "７六歩()", api.ErrForm}, {0, "７六歩(7)", api.ErrForm}, {0, "７六歩(777)", api.ErrForm}, {0, "７六歩(077)", api.ErrForm},
		{0, "７六歩(70)", api.ErrForm}, {0, "７六歩(07)", api.ErrForm}, {0, "７六歩(00)", api.ErrForm}, {0, "７六歩(87)", api.ErrMove}, {0, "７六歩77", api.ErrForm}, {0, "７六歩(77", api.ErrForm}, {0, "７六歩77)", api.ErrForm}, {0, "７六歩[77]", api.ErrForm}, {0, "７六歩（77）", api.ErrForm}, {0, "７六歩(７７)", api.ErrForm}, {0, "７六歩(７七)", api.ErrForm}, {0, "７六歩(7g)", api.ErrForm}, {0, "７六歩(77) ", api.ErrForm}, {0, "７六歩 (77)", api.ErrForm}, {0, "７六 歩(77)", api.ErrForm}, {0, " ７六歩(77)", api.ErrForm}, {0, "７六歩((77)", api.ErrForm}, {0, "７六歩(77))", api.ErrForm}, {0, "７六歩(7 7)", api.ErrForm}, {0, "７六歩(-77)", api.ErrForm}, {0, "７六歩(+77)", api.ErrForm},
		{0, "7六歩(77)", api.ErrForm}, {0, "７6歩(77)", api.ErrForm}, {0, "76歩(77)", api.ErrForm}, {0, "７６歩(77)", api.ErrForm}, {0, "七六歩(77)", api.ErrForm}, {0, "六７歩(77)", api.ErrForm}, {0, "０六歩(77)", api.ErrForm}, {0, "７〇歩(77)", api.ErrForm}, {0, "７十歩(77)", api.ErrForm}, {0, "７歩(77)", api.ErrForm}, {0, "六歩(77)", api.ErrForm}, {0, "歩(77)", api.ErrForm}, {0, "(77)", api.ErrForm}, {0, "７六", api.ErrForm}, {0, "７", api.ErrForm}, {0, "", api.ErrForm}, {0, "7g7f", api.ErrForm}, {0, "▲７六歩(77)", api.ErrForm},
		{0, "７六歩打(77)", api.ErrForm}, {0, "７六歩(77)打", api.ErrForm}, {0, "７六歩(77)成", api.ErrForm}, {0, "７六歩不成(77)", api.ErrForm}, {0, "７六歩成成(77)", api.ErrForm}, {0, "７六成歩(77)", api.ErrForm}, {0, "７六歩成", api.ErrForm}, {0, "５五歩成打", api.ErrForm}, {0, "５五歩打成", api.ErrForm}, {0, "５五打", api.ErrForm}, {0, "打", api.ErrForm}, {0, "成", api.ErrForm}, {0, "５五歩打打", api.ErrForm}, {0, "５五x打", api.ErrForm}, {0, "５五　打", api.ErrForm}, {0, "５五無打", api.ErrForm}, {0, "５五\x00打", api.ErrForm}, {0, "５四\x00(55)", api.ErrForm}, {0, "５四無(55)", api.ErrForm}, {0, "５四(55)", api.ErrForm}, {0, "５四歩(55)", api.ErrForm}, {0, "５四\uFFFD(55)", api.ErrForm}, {0, "１二\x00(12)", api.ErrForm}, {0, "５五王打", api.ErrForm}, {0, "５五竜打", api.ErrForm}, {0, "１一打", api.ErrForm}, {0, "１一(11)", api.ErrForm},
		{0, "５八玉(59)", api.OK}, {0, "５八王(59)", api.ErrForm}, {0, "５七玉(59)", api.ErrMove}, {0, "５七王(59)", api.ErrForm},
		{0, "同　歩(77)", api.ErrForm}, {0, "同　歩打", api.ErrForm}, {0, "同　", api.ErrForm}, {0, "同　玉(59)", api.ErrForm}, {0, "同　香(11)", api.ErrForm},
		{1, "３四歩(33)", api.OK}, {1, "７五歩(76)", api.ErrMove}, {1, "７六歩(77)", api.ErrForm}, {1, "３五歩(33)", api.ErrMove}, {1, "同　歩(73)", api.ErrMove}, {1, "同　歩(77)", api.ErrForm}, {1, "７六歩(73)", api.ErrForm}, {1, "同　歩(76)", api.ErrMove}, {1, "同　歩打", api.ErrMove}, {1, "７六歩打", api.ErrForm}, {1, "同　角(22)", api.ErrMove}, {1, "７六角(22)", api.ErrForm},
		{2, "２二角成(88)", api.OK}, {2, "２二角(88)", api.OK}, {2, "２二馬(88)", api.ErrForm}, {2, "２二馬成(88)", api.ErrForm}, {2, "２二角成(22)", api.ErrMove}, {2, "２二角成(77)", api.ErrForm}, {2, "６六角成(88)", api.ErrMove}, {2, "６六角(88)", api.OK}, {2, "３四角(88)", api.ErrForm}, {2, "同　角(88)", api.ErrMove}, {2, "同　角成(88)", api.ErrMove},
		{3, "同　銀(31)", api.OK}, {3, "２二銀(31)", api.ErrForm}, {3, "同　飛(82)", api.OK}, {3, "同　銀成(31)", api.ErrMove}, {3, "同　金(31)", api.ErrForm}, {3, "同　金(41)", api.ErrMove}, {3, "同　全(31)", api.ErrForm}, {3, "同 銀(31)", api.ErrForm}, {3, "同銀(31)", api.ErrForm}, {3, "同　　銀(31)", api.ErrForm}, {3, "同　２二銀(31)", api.ErrForm}, {3, "２二同　銀(31)", api.ErrForm}, {3, "同　 銀(31)", api.ErrForm}, {3, "同\t銀(31)", api.ErrForm}, {3, "　銀(31)", api.ErrForm}, {3, "銀(31)", api.ErrForm}, {3, "同　馬(22)", api.ErrMove}, {3, "１一馬(22)", api.ErrMove}, {3, "１一角(22)", api.ErrForm}, {3, "１一角成(22)", api.ErrForm}, {3, "４四角打", api.ErrMove}, {3, "５五歩打", api.ErrMove},
		{4, "５五角打", api.OK}, {4, "５五角", api.ErrForm}, {4, "５五角(11)", api.ErrForm}, {4, "５五馬打", api.ErrMove}, {4, "５五飛打", api.ErrMove}, {4, "３四角打", api.ErrMove}, {4, "同　角打", api.ErrMove}, {4, "２二角打", api.ErrForm}, {4, "５五銀打", api.ErrMove}, {4, "５十角打", api.ErrForm},
		{5, "３三銀(22)", api.OK}, {5, "同　角打", api.ErrMove}, {5, "５五角打", api.ErrForm}, {5, "４四角打", api.OK}, {5, "４四馬打", api.ErrMove},
	}
	for _, row := range rows {
		s := fmt.Sprintf("%s%4d %s\n", opened(row.made), row.made+1, row.text)
		if row.e != api.OK {
			refused(t, row.text, s, 2+row.made, row.e)
			// What is behind it doesn't count.
			for _, more := range []string{"x\n", "\n", "   1 投了\n", fmt.Sprintf("%4d 投了\n", row.made+2)} {
				refused(t, row.text, s+more, 2+row.made, row.e)
			}
		} else if _, e := same(t, s); e != api.OK {
			t.Errorf("%q behind %d moves: %v", row.text, row.made, e)
		}
	}
}

func TestReadOfPromotions(t *testing.T) { // P16.3: left out, or too many
	p := put(map[int]api.Piece{80: K, 0: k, 64: P, 55: 2, 47: 3, 29: 4, 38: 6, 20: up + 7, 13: 5, 45: up + 3})
	rows := []struct {
		text string
		e    api.Errno
	}{
		{"８一歩成(82)", api.OK}, {"８一歩(82)", api.ErrMove}, {"８一と(82)", api.ErrForm}, {"７一香成(72)", api.OK}, {"７一香(72)", api.ErrMove}, {"７一桂成(63)", api.OK}, {"７一桂(63)", api.ErrMove}, {"７一圭(63)", api.ErrForm}, {"４二銀(43)", api.OK}, {"４二銀成(43)", api.OK}, {"４二全(43)", api.ErrForm}, {"４四角成(53)", api.OK}, {"４四角(53)", api.OK},
		{"２二龍(33)", api.OK}, {"２二龍成(33)", api.ErrMove}, {"２二飛(33)", api.ErrForm}, {"２二飛成(33)", api.ErrForm}, {"２二竜(33)", api.ErrForm}, {"２四金成(25)", api.ErrMove}, {"２四金(25)", api.OK}, {"５一圭(61)", api.OK}, {"５一圭成(61)", api.ErrMove}, {"５一桂(61)", api.ErrForm}, {"８八玉成(99)", api.ErrMove}, {"８八玉(99)", api.OK},
	}
	for _, row := range rows {
		s := record(p, nil, game.Ongoing) + "   1 " + row.text + "\n"
		if n, e := same(t, s); e != row.e || e != api.OK && n != 2 {
			t.Errorf("%s: %v at %d", row.text, e, n)
		}
	}
}

func TestReadOfTheLastSquare(t *testing.T) { // P16.3: 同 where it is the last square, and the square's text where it isn't; no text does for the other
	d := dice(3)
	onto := 0
	for range 120 {
		g := anyGame(&d, 30)
		list := g.Moves()
		state, _ := g.State()
		s := record(g.Start(), list, state)
		p, last := g.Start(), -1
		for n, m := range list {
			text := told(p, m, last)
			wrong := "同\u3000" + strings.TrimPrefix(text, told(p, m, -1)[:6])
			if m.To == last {
				wrong = told(p, m, -1)
				onto++
			}
			number := fmt.Sprintf("\n%4d ", n+1)
			got, e := same(t, strings.Replace(s, number+text, number+wrong, 1))
			// Where there is a last square that is another one, the text tells a move there: that may be legal.
			if (m.To == last || last < 0) && (got != 2+n || e != api.ErrForm) {
				t.Errorf("%q in the place of %q: %v at %d, not %d", wrong, text, e, got, 2+n)
			}
			p, last = after(p, m), m.To
		}
	}
	if onto < 50 {
		t.Errorf("%d moves only onto the last square", onto)
	}
}

func TestReadOfEnds(t *testing.T) { // P16.3: that aren't so, that are missing, told twice, or have lines behind them
	walk, list := around(4096)
	rows := []struct {
		name  string
		p     api.Position
		moves []api.Move
		state int
		next  string // a move that is written right behind the last one
	}{
		{"the Start", board.Start(), nil, game.Ongoing, "７六歩(77)"},
		{"some moves", board.Start(), opening, game.Ongoing, "３三銀(22)"},
		{"check", golden, []api.Move{{To: 28, Drop: api.Gold}}, game.Ongoing, "６二玉(51)"},
		{"a draw", board.Start(), toFro, game.Draw, "７六歩(77)"},
		{"nearly a draw", board.Start(), toFro[:11], game.Ongoing, "８四歩(83)"},
		{"mated", golden, goldOn, game.Mated, "６一玉(51)"},
		{"mated, and the piece can't go so", golden, goldOn, game.Mated, "９九玉(51)"},
		{"mated, and a piece of the other side", golden, goldOn, game.Mated, "５一金(52)"},
		{"mated, and one that goes onto the last square", golden, goldOn, game.Mated, "同　玉(51)"},
		{"mated, and a drop", golden, goldOn, game.Mated, "５五歩打"},
		{"mated at the beginning", mated, nil, game.Mated, "６九玉(59)"},
		{"checks", rook, checks, game.Perpetual, "１五飛(25)"},
		{"nearly so many checks", rook, checks[:11], game.Ongoing, "１二玉(21)"},
		{"too long", walk, list, game.TooLong, "５八玉(99)"},
		{"nearly too long", walk, list[:4095], game.Ongoing, ""},
	}
	for _, row := range rows {
		s := record(row.p, row.moves, game.Ongoing)
		line := 2 + len(row.moves)
		number, next := fmt.Sprintf("%4d ", line-1), fmt.Sprintf("%4d ", line)
		if row.name == "too long" {
			now := row.p
			for _, m := range row.moves {
				now = after(now, m)
			}
			row.next = told(now, legal.All(board.New(now))[0], -1)
		}
		if row.state == game.Ongoing {
			same(t, s)
		} else {
			refused(t, row.name+": missing", s, line, api.ErrForm)
			refused(t, row.name+": a move behind the end", s+number+row.next+"\n", line, api.ErrOver)
			refused(t, row.name+": a move behind the end, and the end behind it", s+number+row.next+"\n"+next+ends[row.state]+"\n", line, api.ErrOver)
			refused(t, row.name+": a wrong number behind the end", s+next+row.next+"\n", line, api.ErrForm)
			refused(t, row.name+": what is no move behind the end", s+number+row.next+" \n", line, api.ErrForm)
		}
		for state, word := range ends {
			end := number + word + "\n"
			if word == "" || state != row.state && (row.state != game.Ongoing || state != game.Resigned) {
				refused(t, row.name+": wrong, "+word, s+end, line, api.ErrForm)
				continue
			}
			if n, e := same(t, s+end); n != 0 || e != api.OK {
				t.Errorf("%s: %s: %v at %d", row.name, word, e, n)
			}
			// Only the last line is an end.
			refused(t, row.name+": twice", s+end+end, line, api.ErrForm)
			for _, second := range ends {
				refused(t, row.name+": two ends", s+end+next+second+"\n", line, api.ErrForm)
			}
			for _, more := range []string{"\n", " \n", "x\n", number + row.next + "\n", next + row.next + "\n", next + "\n"} {
				refused(t, row.name+": more behind it", s+end+more, line, api.ErrForm)
			}
			for _, near := range []string{word + " ", " " + word, word + "　", word + word, word[:3], word + "\r", "\x00" + word} {
				refused(t, row.name+": nearly so", s+number+near+"\n", line, api.ErrForm)
			}
		}
		for _, word := range []string{"", " ", "詰", "持将棋", "切れ負け", "反則勝ち", "入玉勝ち", "resign", "投", "了投", "投了。", "まで1手で先手の勝ち", "*x"} {
			refused(t, row.name+": no word", s+number+word+"\n", line, api.ErrForm)
		}
	}
}

func TestEachLine(t *testing.T) { // P16.3: turned with the next one, left out, twice, with a sign more
	d := dice(4)
	signs := []string{" ", "x", "0", "1", "\x00", "\xff", "　", "成", "打", "歩", "\r", "\n"}
	for range 25 {
		g := anyGame(&d, 16)
		state, _ := g.State()
		s := thereAndBack(t, "any", g)
		lines := strings.SplitAfter(s, "\n")
		lines = lines[:len(lines)-1]
		wrong := func(name string, at int, changed []string) {
			t.Helper()
			if n, e := same(t, strings.Join(changed, "")); e == api.OK || n != at {
				t.Errorf("%s: %v at %d, not %d: %q", name, e, n, at, changed)
			}
		}
		for i, line := range lines {
			if i+1 < len(lines) {
				swapped := slices.Clone(lines)
				swapped[i], swapped[i+1] = swapped[i+1], swapped[i]
				wrong("turned", i, swapped)
				wrong("left out", i, slices.Delete(slices.Clone(lines), i, i+1))
			}
			same(t, strings.Join(slices.Delete(slices.Clone(lines), i, i+1), ""))
			twice := i + 1
			if state != game.Ongoing && i+1 == len(lines) {
				twice = i // only the last line is an end
			}
			wrong("twice", twice, slices.Insert(slices.Clone(lines), i, line))
			for _, x := range signs {
				longer := slices.Clone(lines)
				longer[i] = x + line
				wrong("a sign more ahead", i, longer)
				same(t, strings.Join(lines[:i], "")+line[:len(line)-1]+x+"\n"+strings.Join(lines[i+1:], ""))
			}
			shorter := slices.Clone(lines)
			shorter[i] = line[:len(line)-2] + "\n"
			wrong("a byte less", i, shorter)
			shorter[i] = line[1:]
			wrong("a byte less ahead", i, shorter)
			wrong("no byte 10", len(lines)-1, append(slices.Clone(lines[:len(lines)-1]), strings.TrimSuffix(lines[len(lines)-1], "\n")))
		}
	}
}

// changed is a text in which some signs are others, are missing, or stand there twice.
func changed(d *dice, s string) string {
	const signs = kinds + files + ranks + "同　打成王竜投了詰み 0123456789()\n"
	runes := []rune(signs)
	for range 1 + d.below(3) {
		text := []rune(s)
		at := d.below(len(text) + 1)
		if d.below(4) > 0 && len(text) > 30 {
			at = 30 + d.below(len(text)-29)
		}
		end := min(at+d.below(4), len(text))
		x := string(runes[d.below(len(runes))])
		if d.below(40) == 0 {
			x = string([]byte{byte(d.below(256))})
		}
		ahead, one, behind := string(text[:at]), string(text[at:end]), string(text[end:])
		switch d.below(5) {
		case 0:
			s = ahead + behind
		case 1:
			s = ahead + x + one + behind
		case 2:
			s = ahead + x + string(text[min(at+1, len(text)):])
		case 3:
			s = ahead + one + one + behind
		case 4:
			s = ahead + one
		}
	}
	return s
}

// otherMove is a text in which one move's text is that of another one, at any position.
func otherMove(d *dice, s string) string {
	lines := strings.Split(s, "\n")
	if len(lines) < 4 {
		return s
	}
	at := 2 + d.below(len(lines)-3)
	to := sign(files, d.below(9)) + sign(ranks, d.below(9))
	if d.below(3) == 0 {
		to = "同\u3000"
	}
	from := fmt.Sprintf("(%d%d)", d.below(10), d.below(10))
	kind := sign(kinds, d.below(15))
	number := lines[at][:min(5, len(lines[at]))]
	text := lines[at][len(number):]
	switch d.below(6) {
	case 0:
		text = to + kind + "打"
	case 1:
		text = to + kind + from
	case 2:
		text = to + kind + "成" + from
	case 3:
		text = to + strings.TrimPrefix(text, text[:min(6, len(text))])
	case 4:
		text = strings.Replace(text, "(", "成(", 1)
	case 5:
		text = strings.Replace(text, "成", "", 1)
	}
	lines[at] = number + text
	return strings.Join(lines, "\n")
}

func TestRead(t *testing.T) { // P16.3: any texts that are nearly records
	d := dice(5)
	seen := map[api.Errno]int{}
	count := func(s string) {
		_, e := same(t, s)
		seen[e]++
	}
	for range 500 {
		g := anyGame(&d, 12)
		s := kif.Write(g)
		for range 8 {
			count(changed(&d, s))
			count(otherMove(&d, s))
			at := d.below(len(s) + 1)
			count(s[:at] + string([]byte{byte(d.below(256))}) + s[min(at+d.below(2), len(s)):])
			count(s[:d.below(len(s))])
		}
	}
	for _, e := range []api.Errno{api.OK, api.ErrForm, api.ErrMove} {
		if seen[e] < 100 {
			t.Errorf("%v was the answer %d times only", e, seen[e])
		}
	}
}

func TestNothingIsKept(t *testing.T) { // P2: games of one record are apart, and answers hang on what is given alone
	s := opened(5)
	first, _, e := kif.Read(s)
	second, _, e2 := kif.Read(s)
	if e != api.OK || e2 != api.OK || first == second {
		t.Fatalf("Read: %v %v", e, e2)
	}
	if first.Move(api.Move{From: 10, To: 20}) != api.OK || first.Resign() != api.OK {
		t.Error("a game that was read doesn't go on")
	}
	if kif.Write(second) != s || kif.Write(first) != s+"   6 ３三銀(22)\n   7 投了\n" {
		t.Errorf("%q, %q", kif.Write(first), kif.Write(second))
	}
	if third, n, e := kif.Read(s); n != 0 || e != api.OK || !alike(second, third) {
		t.Error("Read once more")
	}
	// A game that was read has the same end as the one that was written.
	resigned, _, _ := kif.Read(s + "   6 投了\n")
	if state, loser := resigned.State(); state != game.Resigned || loser != api.White || resigned.Resign() != api.ErrOver {
		t.Errorf("%d %d", state, loser)
	}
}

// raw is a position of any numbers.
func raw(d *dice) api.Position {
	var p api.Position
	for q := range p.Board {
		p.Board[q] = api.Piece(d.below(34))
		if d.below(10) == 0 {
			p.Board[q] = api.Piece(d.below(256))
		}
	}
	for side := range p.Hands {
		for kind := range p.Hands[side] {
			p.Hands[side][kind] = int8(d.below(256))
		}
	}
	p.Side = int8(d.below(256))
	return p
}

func TestNoCallPanics(t *testing.T) { // P1: at any positions, moves and bytes
	d := dice(6)
	far := []int{math.MinInt, math.MinInt32, -1 << 32, -82, -81, -9, -1, 0, 1, 8, 80, 81, 82, 90, 255, 256, 1 << 32, 1<<32 + 40, math.MaxInt32, math.MaxInt}
	for range 300 {
		p := raw(&d)
		before := p
		for _, from := range far {
			for _, to := range far {
				n := far[d.below(len(far))]
				for _, m := range []api.Move{{From: from, To: to}, {From: from, To: to, Promote: true}, {To: to, Drop: from}, {From: from, To: to, Drop: n, Promote: true}} {
					got := kif.Move(p, m, n)
					if (to < 0 || to > 80 || m.Drop == 0 && (from < 0 || from > 80 || p.Board[from] < 1)) && got != "" {
						t.Errorf("Move(%v): %q", m, got)
					}
				}
			}
		}
		if p != before {
			t.Error("a position is changed")
		}
	}
	for range 3000 {
		bytes := make([]byte, d.below(120))
		for i := range bytes {
			bytes[i] = byte(d.below(256))
			if d.below(8) == 0 {
				bytes[i] = '\n'
			}
		}
		for _, ahead := range []string{"", even, other, head, head + "   1 ", opened(4) + "   5 "} {
			same(t, ahead+string(bytes))
			same(t, ahead+string(bytes)+"\n")
		}
	}
}
