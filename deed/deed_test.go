package deed_test

import (
	"math"
	"testing"

	"kakugyo/api"
	"kakugyo/board"
	"kakugyo/deed"
	"kakugyo/key"
	"kakugyo/move"
)

const white = 16

// wrong is what is no square: the nearest ones, those that a product or fewer bits would wrap round to one, and the farthest.
var wrong = []int{-1, -2, -9, -10, -81, 81, 82, 89, 90, 99, 127, 128, 255, 256, 256 + 40, 1<<16 + 40, 1 << 32, 1<<32 + 40, -1<<32 + 40, math.MinInt, math.MinInt + 40, math.MaxInt}

// wrongDrops are what is no kind that can be dropped, nor 0.
var wrongDrops = []int{-1, -2, -7, 8, 9, 13, 16, 17, 23, 128, 255, 257, 1<<16 + 1, 1<<32 + 1, -1<<32 + 1, math.MinInt, math.MinInt + 1, math.MaxInt}

// wrongSides are what is no side.
var wrongSides = []int8{-1, -2, 2, 3, 8, 16, 17, 127, math.MinInt8, math.MinInt8 + 1}

// dice are numbers without a pattern, the same ones in each run.
type dice uint64

func (d *dice) below(n int) int {
	*d = *d*6364136223846793005 + 1442695040888963407
	return int(uint64(*d) >> 33 % uint64(n))
}

// sideOf is told by the number alone; -1: it is no piece.
func sideOf(x api.Piece) int {
	switch {
	case x >= 1 && x <= 15 && x != 13:
		return 0
	case x >= 17 && x <= 31 && x != 29:
		return 1
	}
	return -1
}

// clean is a position as New has it: what is no piece isn't there.
func clean(p api.Position) api.Position {
	for q, x := range p.Board {
		if sideOf(x) < 0 {
			p.Board[q] = 0
		}
	}
	return p
}

// can is P9.2 told by the numbers of pieces.
func can(p api.Position, m api.Move) bool {
	p = clean(p)
	if move.Check(m) != api.OK || p.Side != 0 && p.Side != 1 {
		return false
	}
	side := int(p.Side)
	if m.Drop != 0 {
		return p.Hands[side][m.Drop] > 0 && p.Board[m.To] == 0
	}
	x, y := p.Board[m.From], p.Board[m.To]
	switch {
	case sideOf(x) != side, sideOf(y) == side, y == api.King, y == api.King+white:
		return false
	case m.Promote:
		return x%white < api.King && x%white != api.Gold
	}
	return true
}

// after is P9.3 told on the position alone.
func after(p api.Position, m api.Move) (api.Position, bool) {
	ok := can(p, m)
	p = clean(p)
	if !ok {
		return p, false
	}
	side := p.Side
	p.Side = 1 - side
	if m.Drop != 0 {
		p.Hands[side][m.Drop]--
		p.Board[m.To] = api.Piece(m.Drop) + white*api.Piece(side)
		return p, true
	}
	if kind := p.Board[m.To] % white; kind > api.King {
		p.Hands[side][kind-api.Promoted]++
	} else if kind > 0 {
		p.Hands[side][kind]++
	}
	p.Board[m.To] = p.Board[m.From]
	if m.Promote {
		p.Board[m.To] += api.Promoted
	}
	p.Board[m.From] = 0
	return p, true
}

// put is a position with pieces on squares.
func put(pieces map[int]api.Piece) api.Position {
	var p api.Position
	for q, x := range pieces {
		p.Board[q] = x
	}
	return p
}

// some is a position of any pieces, few or many, of what is none now and then, and some in hand.
func some(d *dice) api.Position {
	var p api.Position
	full := 1 + d.below(9)
	for q := range p.Board {
		if d.below(10) < full {
			p.Board[q] = api.Piece(d.below(34))
		}
		if d.below(30) == 0 {
			p.Board[q] = api.Piece(d.below(256))
		}
	}
	for side := range p.Hands {
		for kind := 1; kind < 8; kind++ {
			p.Hands[side][kind] = int8(max(0, d.below(5)-2))
		}
	}
	p.Side = int8(d.below(2))
	return p
}

// try is a move that can often be made, and often fails by one thing alone.
func try(d *dice, p api.Position) api.Move {
	p = clean(p)
	m := api.Move{From: d.below(api.Squares), To: d.below(api.Squares), Promote: d.below(3) == 0}
	switch d.below(4) {
	case 0:
		m = api.Move{To: m.To, Drop: 1 + d.below(7)}
		for n := 0; p.Board[m.To] != 0 && n < 30; n++ {
			m.To = d.below(api.Squares)
		}
	default:
		for n := 0; sideOf(p.Board[m.From]) != int(p.Side) && n < 30; n++ {
			m.From = d.below(api.Squares)
		}
	}
	switch d.below(20) {
	case 0:
		m.From = wrong[d.below(len(wrong))]
	case 1:
		m.To = wrong[d.below(len(wrong))]
	case 2:
		m.Drop = wrongDrops[d.below(len(wrongDrops))]
	case 3:
		m.To = m.From
	case 4:
		m.From, m.To, m.Promote = d.below(90)-4, d.below(90)-4, d.below(2) == 0
	}
	return m
}

// holds tells whether all that a game tells is of a position, and of so many moves made.
func holds(t *testing.T, g *deed.Game, p api.Position, made int) {
	t.Helper()
	if *g.Board != *board.New(p) {
		t.Fatalf("the board: %v, want %v", g.Position, p)
	}
	if g.Key() != key.Of(p) {
		t.Fatalf("Key: %x, want %x", g.Key(), key.Of(p))
	}
	if g.Len() != made {
		t.Fatalf("Len: %d, want %d", g.Len(), made)
	}
}

func TestNew(t *testing.T) { // P9.1: of any position; what is no piece isn't put
	d := dice(1)
	for range 2000 {
		p := some(&d)
		holds(t, deed.New(p), clean(p), 0)
	}
	holds(t, deed.New(board.Start()), board.Start(), 0)
	holds(t, deed.New(api.Position{}), api.Position{}, 0)
	if got := deed.New(api.Position{}).Key(); got != 0 {
		t.Errorf("of nothing: %x", got)
	}
	p := board.Start()
	p.Side = api.White
	if deed.New(p).Key() == deed.New(board.Start()).Key() {
		t.Error("whose turn it is doesn't count")
	}
}

func TestABoardIsIn(t *testing.T) { // P9.1: a Game is a Board, whose methods are its own
	g := deed.New(board.Start())
	if g.King(api.Black) != 44 || g.At(60) != api.Pawn || g.Of(api.White, api.Rook).First() != 64 || g.Taken().Count() != 40 || g.Pieces(api.Black).Count() != 20 || g.Hand(0, 1) != 0 {
		t.Error("the board's methods")
	}
	if g.Side != api.Black || g.Position != board.Start() {
		t.Error("the position's fields")
	}
	c := g.Clone()
	g.Make(api.Move{From: 60, To: 59})
	if c.Position != board.Start() {
		t.Error("a clone goes with it")
	}
}

func TestCan(t *testing.T) { // P9.2: any positions, and any moves
	d := dice(2)
	seen := map[bool]int{}
	for range 300 {
		p := some(&d)
		g := deed.New(p)
		for range 100 {
			m := try(&d, p)
			got, want := g.Can(m), can(p, m)
			if got != want {
				t.Fatalf("Can(%v), side %d, of %v, hands %v: %v", m, p.Side, p.Board, p.Hands, got)
			}
			seen[got]++
		}
		holds(t, g, clean(p), 0)
	}
	if seen[true] < 8000 || seen[false] < 8000 {
		t.Errorf("so often: %v", seen)
	}
}

// at is Black's turn: pieces of both sides, some of them promoted, and a pawn and a rook in hand, and White's silver.
func at() api.Position {
	p := put(map[int]api.Piece{
		80: api.King, 0: api.King + white, 10: api.King, 60: api.Pawn, 61: api.Gold, 62: api.Pawn + 8, 63: api.Bishop + 8, 64: api.Knight, 65: api.Lance + 8, 66: api.Silver, 67: api.Rook, 68: api.Lance, 69: api.Bishop,
		20: api.Pawn + white, 21: api.Gold + white, 22: api.Rook + 8 + white, 23: api.Silver + 8 + white, 24: 13, 25: 40, 26: -3,
	})
	p.Hands[0] = [8]int8{0, 1, 0, 0, 0, 0, 0, 1}
	p.Hands[1] = [8]int8{0, 0, 0, 0, 1, 0, 0, 0}
	return p
}

// rows are moves at the position above.
var rows = []struct {
	name string
	m    api.Move
	want bool
}{
	{"a pawn, one ahead", api.Move{From: 60, To: 59}, true},
	{"however it goes", api.Move{From: 60, To: 4}, true},
	{"behind it", api.Move{From: 60, To: 70}, true},
	{"onto a piece of White's", api.Move{From: 60, To: 20}, true},
	{"onto a promoted piece of White's", api.Move{From: 61, To: 22}, true},
	{"onto a piece of its own", api.Move{From: 60, To: 61}, false},
	{"onto a promoted piece of its own", api.Move{From: 60, To: 62}, false},
	{"onto White's king", api.Move{From: 60, To: 0}, false},
	{"onto its own king", api.Move{From: 60, To: 80}, false},
	{"onto its own second king", api.Move{From: 60, To: 10}, false},
	{"a king onto a king", api.Move{From: 80, To: 0}, false},
	{"a king", api.Move{From: 80, To: 79}, true},
	{"White's piece", api.Move{From: 20, To: 40}, false},
	{"White's piece onto one of Black's", api.Move{From: 20, To: 60}, false},
	{"White's piece onto one of White's", api.Move{From: 20, To: 21}, false},
	{"from a free square", api.Move{From: 40, To: 41}, false},
	{"from a free square onto a piece", api.Move{From: 40, To: 20}, false},
	{"from what is no piece", api.Move{From: 24, To: 41}, false},
	{"from what is no piece, 40", api.Move{From: 25, To: 41}, false},
	{"onto what is no piece", api.Move{From: 60, To: 24}, true},
	{"onto what is no piece, -3", api.Move{From: 60, To: 26}, true},
	{"a pawn promotes, wherever", api.Move{From: 60, To: 59, Promote: true}, true},
	{"a lance promotes", api.Move{From: 68, To: 59, Promote: true}, true},
	{"a knight promotes", api.Move{From: 64, To: 59, Promote: true}, true},
	{"a silver promotes", api.Move{From: 66, To: 59, Promote: true}, true},
	{"a bishop promotes", api.Move{From: 69, To: 59, Promote: true}, true},
	{"a rook promotes", api.Move{From: 67, To: 59, Promote: true}, true},
	{"a gold promotes", api.Move{From: 61, To: 1, Promote: true}, false},
	{"a king promotes", api.Move{From: 80, To: 1, Promote: true}, false},
	{"a promoted pawn promotes", api.Move{From: 62, To: 1, Promote: true}, false},
	{"a promoted lance promotes", api.Move{From: 65, To: 1, Promote: true}, false},
	{"a promoted bishop promotes", api.Move{From: 63, To: 1, Promote: true}, false},
	{"a promoted pawn goes", api.Move{From: 62, To: 1}, true},
	{"a pawn where it could never move", api.Move{From: 60, To: 9}, true},
	{"promoting onto its own", api.Move{From: 60, To: 61, Promote: true}, false},
	{"promoting onto a king", api.Move{From: 60, To: 0, Promote: true}, false},
	{"promoting onto White's", api.Move{From: 60, To: 20, Promote: true}, true},
	{"a pawn is dropped", api.Move{To: 40, Drop: api.Pawn}, true},
	{"a rook is dropped", api.Move{To: 40, Drop: api.Rook}, true},
	{"a pawn is dropped in a file with a pawn", api.Move{To: 59, Drop: api.Pawn}, true},
	{"a pawn is dropped where it could never move", api.Move{To: 9, Drop: api.Pawn}, true},
	{"a drop on what is no piece", api.Move{To: 24, Drop: api.Pawn}, true},
	{"a drop of which there is none", api.Move{To: 40, Drop: api.Lance}, false},
	{"a drop of what White has", api.Move{To: 40, Drop: api.Silver}, false},
	{"a drop onto its own", api.Move{To: 60, Drop: api.Pawn}, false},
	{"a drop onto White's", api.Move{To: 20, Drop: api.Pawn}, false},
	{"a drop onto a king", api.Move{To: 0, Drop: api.Pawn}, false},
	{"a drop from a square", api.Move{From: 60, To: 40, Drop: api.Pawn}, false},
	{"a drop that promotes", api.Move{To: 40, Drop: api.Pawn, Promote: true}, false},
	{"a drop of a king", api.Move{To: 40, Drop: api.King}, false},
	{"a drop of a promoted pawn", api.Move{To: 40, Drop: api.Pawn + 8}, false},
	{"a drop of -1", api.Move{To: 40, Drop: -1}, false},
	{"a drop outside", api.Move{To: 81, Drop: api.Pawn}, false},
	{"nowhere", api.Move{From: 60, To: 60}, false},
	{"nowhere, promoting", api.Move{From: 60, To: 60, Promote: true}, false},
	{"to outside", api.Move{From: 60, To: 81}, false},
	{"to outside, below", api.Move{From: 60, To: -1}, false},
	{"from outside", api.Move{From: 81, To: 40}, false},
	{"from outside, below", api.Move{From: -1, To: 40}, false},
	{"the zero move", api.Move{}, false},
}

// turned is a position seen from the other side.
func turned(p api.Position) api.Position {
	other := api.Position{Hands: [2][8]int8{p.Hands[1], p.Hands[0]}, Side: 1 - p.Side}
	for q, x := range p.Board {
		other.Board[80-q] = x
		if side := sideOf(x); side >= 0 {
			other.Board[80-q] = x%white + api.Piece(white*(1-side))
		}
	}
	return other
}

// across is a move seen from the other side.
func across(m api.Move) api.Move {
	m.To = 80 - m.To
	if m.Drop == 0 || m.From != 0 {
		m.From = 80 - m.From
	}
	return m
}

func TestCanByHand(t *testing.T) { // P9.2: for both sides
	for _, r := range rows {
		if got := deed.New(at()).Can(r.m); got != r.want {
			t.Errorf("%s: %v", r.name, got)
		}
		if got := deed.New(turned(at())).Can(across(r.m)); got != r.want {
			t.Errorf("%s, White's: %v", r.name, got)
		}
	}
}

func TestMakeByHand(t *testing.T) { // P9.3: Make answers what Can does; false changes nothing
	for _, r := range rows {
		g := deed.New(at())
		want, _ := after(at(), r.m)
		if got := g.Make(r.m); got != r.want {
			t.Errorf("%s: %v", r.name, got)
		}
		if !r.want {
			holds(t, g, clean(at()), 0)
			continue
		}
		holds(t, g, want, 1)
		if !g.Back() {
			t.Errorf("%s: isn't taken back", r.name)
		}
		holds(t, g, clean(at()), 0)
	}
}

func TestWrongSides(t *testing.T) { // P9.2, P9.3: whoever's piece it is, nothing can be made
	for _, side := range wrongSides {
		p := at()
		p.Side = side
		g := deed.New(p)
		for _, r := range rows {
			for _, m := range []api.Move{r.m, {From: 20, To: 40}, {To: 40, Drop: api.Silver}} {
				if g.Can(m) || g.Make(m) {
					t.Errorf("side %d: %v is made", side, m)
				}
			}
		}
		holds(t, g, clean(p), 0)
		if g.Back() {
			t.Errorf("side %d: taken back", side)
		}
	}
}

func TestTakenPiecesByHand(t *testing.T) { // P9.3: each kind of either side, as what it is raw
	for kind, raw := range map[int]int{1: 1, 2: 2, 3: 3, 4: 4, 5: 5, 6: 6, 7: 7, 9: 1, 10: 2, 11: 3, 12: 4, 14: 6, 15: 7} {
		for side := range 2 {
			p := put(map[int]api.Piece{40: api.Piece(api.Gold + white*side), 41: api.Piece(kind + white*(1-side))})
			p.Side = int8(side)
			p.Hands[side][raw], p.Hands[1-side][raw] = 2, 5
			want := put(map[int]api.Piece{41: api.Piece(api.Gold + white*side)})
			want.Side = int8(1 - side)
			want.Hands[side][raw], want.Hands[1-side][raw] = 3, 5
			g := deed.New(p)
			if !g.Make(api.Move{From: 40, To: 41}) {
				t.Errorf("%d isn't taken", kind)
			}
			holds(t, g, want, 1)
			g.Back()
			holds(t, g, p, 0)
		}
	}
}

func TestPromotedPiecesByHand(t *testing.T) { // P9.3: each kind of either side
	for kind, up := range map[int]int{1: 9, 2: 10, 3: 11, 4: 12, 6: 14, 7: 15} {
		for side := range 2 {
			p := put(map[int]api.Piece{40: api.Piece(kind + white*side)})
			p.Side = int8(side)
			want := put(map[int]api.Piece{0: api.Piece(up + white*side)})
			want.Side = int8(1 - side)
			g := deed.New(p)
			if !g.Make(api.Move{From: 40, To: 0, Promote: true}) {
				t.Errorf("%d isn't promoted", kind)
			}
			holds(t, g, want, 1)
			g.Back()
			holds(t, g, p, 0)
		}
	}
}

func TestDropsByHand(t *testing.T) { // P9.3: each kind of either side, until there is none; also on 0, and while a piece stands on 0
	for kind := 1; kind < 8; kind++ {
		for side := range 2 {
			for to, gold := range map[int]int{0: 80, 40: 41, 80: 0} {
				p := put(map[int]api.Piece{62: api.Pawn, 63: api.Pawn + white, gold: api.Gold})
				p.Side = int8(side)
				p.Hands[side][kind] = 1
				want := p
				want.Side, want.Hands[side][kind], want.Board[to] = int8(1-side), 0, api.Piece(kind+white*side)
				g := deed.New(p)
				if !g.Make(api.Move{To: to, Drop: kind}) {
					t.Errorf("%d isn't dropped on %d", kind, to)
				}
				holds(t, g, want, 1)
				if g.Make(api.Move{To: 50, Drop: kind}) {
					t.Errorf("%d: the other side has none", kind)
				}
				g.Make(api.Move{From: 62 + (1 - side), To: 60})
				if g.Len() != 2 || g.Make(api.Move{To: 50, Drop: kind}) {
					t.Errorf("%d: there is none any more", kind)
				}
				for range g.Len() {
					g.Back()
				}
				holds(t, g, p, 0)
			}
		}
	}
}

func TestThereAndBack(t *testing.T) { // P9.1, P9.3: games of any moves, taken back now and then, told by the positions alone
	d := dice(3)
	kinds := map[string]int{}
	for range 120 {
		start := some(&d)
		g := deed.New(start)
		past := []api.Position{clean(start)}
		for range 150 {
			now := past[len(past)-1]
			if d.below(4) == 0 {
				if got := g.Back(); got != (len(past) > 1) {
					t.Fatalf("Back: %v, with %d made", got, len(past)-1)
				}
				past = past[:max(1, len(past)-1)]
				kinds["back"]++
				holds(t, g, past[len(past)-1], len(past)-1)
				continue
			}
			m := try(&d, now)
			next, want := after(now, m)
			if got := g.Make(m); got != want {
				t.Fatalf("Make(%v) at %v: %v", m, now, got)
			}
			if want {
				past = append(past, next)
				count(kinds, now, m)
			}
			holds(t, g, next, len(past)-1)
		}
		for len(past) > 1 {
			past = past[:len(past)-1]
			if !g.Back() {
				t.Fatal("Back")
			}
			holds(t, g, past[len(past)-1], len(past)-1)
		}
		if g.Back() {
			t.Fatal("Back with no move made")
		}
		holds(t, g, clean(start), 0)
	}
	for _, name := range []string{"back", "drop", "taken", "promoted one taken", "promotes", "promotes and takes", "king"} {
		if kinds[name] < 100 {
			t.Errorf("%s: %d times only", name, kinds[name])
		}
	}
}

// count counts what a move is.
func count(kinds map[string]int, p api.Position, m api.Move) {
	x := p.Board[m.To]
	switch {
	case m.Drop != 0:
		kinds["drop"]++
		return
	case m.Promote && x != 0:
		kinds["promotes and takes"]++
	case m.Promote:
		kinds["promotes"]++
	case x != 0:
		kinds["taken"]++
	}
	if x%white > api.King {
		kinds["promoted one taken"]++
	}
	if p.Board[m.From]%white == api.King {
		kinds["king"]++
	}
}

func TestTheExample(t *testing.T) { // P9.3: the chapter's
	g := deed.New(board.Start())
	if g.Back() {
		t.Error("nothing was made")
	}
	if !g.Make(api.Move{From: 60, To: 59}) || g.At(60) != 0 || g.At(59) != api.Pawn || g.Side != api.White || g.Len() != 1 {
		t.Error("Make")
	}
	if g.Make(api.Move{From: 59, To: 58}) || g.Len() != 1 {
		t.Error("it is White's turn")
	}
	if !g.Back() || g.Position != board.Start() || g.Key() != key.Of(board.Start()) || g.Len() != 0 || g.Back() {
		t.Error("Back")
	}
}

func TestAfter(t *testing.T) { // P9.3: the position behind Make, and its answer; what was given stays
	d := dice(4)
	seen := map[bool]int{}
	for range 20000 {
		p := some(&d)
		if d.below(10) == 0 {
			p.Side = wrongSides[d.below(len(wrongSides))]
		}
		m := try(&d, p)
		keptP, keptM := p, m
		got, ok := deed.After(p, m)
		want, wantOK := after(p, m)
		if got != want || ok != wantOK {
			t.Fatalf("After(%v, %v): %v %v, want %v %v", p, m, got, ok, want, wantOK)
		}
		if p != keptP || m != keptM {
			t.Fatal("what was given is changed")
		}
		g := deed.New(p)
		if made := g.Make(m); made != ok || g.Position != got {
			t.Fatal("not as Make has it")
		}
		seen[ok]++
	}
	if seen[true] < 4000 || seen[false] < 4000 {
		t.Errorf("so often: %v", seen)
	}
}

func TestGamesAreTheirOwn(t *testing.T) { // P2: what is done to one is told by no other
	p := at()
	first, second := deed.New(p), deed.New(p)
	first.Make(api.Move{From: 60, To: 20})
	holds(t, second, clean(at()), 0)
	second.Make(api.Move{To: 40, Drop: api.Rook})
	want, _ := after(at(), api.Move{From: 60, To: 20})
	holds(t, first, want, 1)
	p.Board[60], p.Side = 0, 1
	holds(t, first, want, 1)
	first.Back()
	holds(t, first, clean(at()), 0)
}

func TestNoCallPanics(t *testing.T) { // P1: also of positions of which nothing else is promised
	d := dice(5)
	for range 4000 {
		p := some(&d)
		for side := range p.Hands {
			for kind := range p.Hands[side] {
				p.Hands[side][kind] = int8(d.below(256))
			}
		}
		if d.below(3) == 0 {
			p.Side = int8(d.below(256))
		}
		g := deed.New(p)
		for range 40 {
			m := try(&d, p)
			g.Can(m)
			if d.below(3) == 0 {
				g.Back()
			}
			g.Make(m)
			g.Key()
			g.Len()
			deed.After(p, m)
		}
	}
}

func TestFullHands(t *testing.T) { // P9.1, P9.3: up to 18 in hand the key is layer 6's
	p := put(map[int]api.Piece{40: api.Gold, 41: api.Pawn + 8 + white, 42: api.Pawn + white, 50: api.Gold + white})
	p.Hands[0][api.Pawn] = 16
	g := deed.New(p)
	g.Make(api.Move{From: 40, To: 41})
	g.Make(api.Move{From: 50, To: 51})
	g.Make(api.Move{From: 41, To: 42})
	if g.Hand(0, api.Pawn) != 18 || g.Key() != key.Of(g.Position) {
		t.Errorf("%d in hand", g.Hand(0, api.Pawn))
	}
	for range 3 {
		g.Back()
	}
	holds(t, g, p, 0)
}
