package mate_test

import (
	"slices"
	"testing"

	"kakugyo/api"
	"kakugyo/attack"
	"kakugyo/board"
	"kakugyo/deed"
	"kakugyo/key"
	"kakugyo/legal"
	"kakugyo/mate"
	"kakugyo/move"
	"kakugyo/ray"
	"kakugyo/set"
)

const white = 16

// dice are numbers without a pattern, the same ones in each run.
type dice uint64

func (d *dice) below(n int) int {
	*d = *d*6364136223846793005 + 1442695040888963407
	return int(uint64(*d) >> 33 % uint64(n))
}

// sideOf is told by the number alone; -1: it is no piece.
func sideOf(x api.Piece) int {
	switch {
	case x >= 1 && x <= 15 && x != 13:
		return 0
	case x >= 17 && x <= 31 && x != 29:
		return 1
	}
	return -1
}

// checked is whether the side to move is in check, told piece by piece.
func checked(p api.Position) bool {
	var full set.Set
	for at, x := range p.Board {
		if sideOf(x) >= 0 {
			full = full.With(at)
		}
	}
	king := slices.Index(p.Board[:], api.Piece(api.King+white*int(p.Side)))
	for at, x := range p.Board {
		if sideOf(x) == 1-int(p.Side) && ray.Of(x, at, full).Has(king) {
			return true
		}
	}
	return false
}

// after is the position behind a move that can be made.
func after(p api.Position, m api.Move) api.Position {
	side := p.Side
	p.Side = 1 - side
	if m.Drop != 0 {
		p.Hands[side][m.Drop]--
		p.Board[m.To] = api.Piece(m.Drop) + api.Piece(white*side)
		return p
	}
	if x := p.Board[m.To]; x != 0 {
		p.Hands[side][x%8]++
	}
	p.Board[m.To], p.Board[m.From] = p.Board[m.From], 0
	if m.Promote {
		p.Board[m.To] += api.Promoted
	}
	return p
}

// stuck is P12.1 told by layer 11's list.
func stuck(p api.Position) bool { return len(legal.All(board.New(p))) == 0 }

// checks is P12.2 told move by move.
func checks(p api.Position) []api.Move {
	var list []api.Move
	for _, m := range legal.All(board.New(p)) {
		if checked(after(p, m)) {
			list = append(list, m)
		}
	}
	return list
}

// mates is P12.3 told move by move: all of them.
func mates(p api.Position) []api.Move {
	var list []api.Move
	for _, m := range checks(p) {
		if stuck(after(p, m)) {
			list = append(list, m)
		}
	}
	return list
}

// put is a position with pieces on squares.
func put(pieces map[int]api.Piece) api.Position {
	var p api.Position
	for q, x := range pieces {
		p.Board[q] = x
	}
	return p
}

// turned is a position seen from the other side.
func turned(p api.Position) api.Position {
	other := api.Position{Hands: [2][8]int8{p.Hands[1], p.Hands[0]}, Side: 1 - p.Side}
	for q, x := range p.Board {
		if side := sideOf(x); side >= 0 {
			other.Board[80-q] = x%white + api.Piece(white*(1-side))
		}
	}
	return other
}

// across is a move seen from the other side.
func across(m api.Move) api.Move {
	m.To = 80 - m.To
	if m.Drop == 0 {
		m.From = 80 - m.From
	}
	return m
}

// acrossAll is moves seen from the other side.
func acrossAll(list []api.Move) []api.Move {
	var other []api.Move
	for _, m := range list {
		other = append(other, across(m))
	}
	slices.SortFunc(other, move.Compare)
	return other
}

// raw is a position of any numbers.
func raw(d *dice) api.Position {
	var p api.Position
	full := 1 + d.below(10)
	for q := range p.Board {
		if d.below(10) < full {
			p.Board[q] = api.Piece(d.below(34))
		}
		if d.below(20) == 0 {
			p.Board[q] = api.Piece(d.below(256))
		}
	}
	for side := range p.Hands {
		for kind := range p.Hands[side] {
			p.Hands[side][kind] = int8(d.below(256))
		}
	}
	p.Side = int8(d.below(256))
	if d.below(2) == 0 {
		p.Side = int8(d.below(2))
	}
	return p
}

// with is the position with one piece more, if that can be.
func with(p api.Position, q int, x api.Piece) api.Position {
	next := p
	next.Board[q] = x
	if p.Board[q] == 0 && attack.Check(next) == api.OK {
		return next
	}
	return p
}

// holding is the position with one more in hand, if that can be.
func holding(p api.Position, side, kind int) api.Position {
	next := p
	next.Hands[side][kind]++
	if attack.Check(next) == api.OK {
		return next
	}
	return p
}

// near is a position that passes layer 8's Check, with pieces close round both kings, and some in hand.
func near(d *dice) api.Position {
	const kinds = "\x01\x02\x03\x04\x05\x06\x07\x09\x0a\x0b\x0c\x0e\x0f"
	p := put(map[int]api.Piece{54 + d.below(27): api.King, d.below(27): api.King + white})
	for attack.Check(p) != api.OK {
		p = put(map[int]api.Piece{54 + d.below(27): api.King, d.below(27): api.King + white})
	}
	p.Side = int8(d.below(2))
	for range d.below(26) {
		king := slices.Index(p.Board[:], api.Piece(api.King+white*d.below(2)))
		file, rank := king/9+d.below(5)-2, king%9+d.below(5)-2
		if d.below(4) == 0 {
			file, rank = d.below(9), d.below(9)
		}
		if file >= 0 && file <= 8 && rank >= 0 && rank <= 8 {
			p = with(p, 9*file+rank, api.Piece(kinds[d.below(len(kinds))])+api.Piece(white*d.below(2)))
		}
	}
	for range d.below(5) {
		p = holding(p, d.below(2), 1+d.below(7))
	}
	return p
}

func TestStuckAndMated(t *testing.T) { // P12.1: any positions that pass layer 8's Check
	d := dice(1)
	free, out, mated := 0, 0, 0
	for n := range 12000 {
		p := near(&d)
		if n%2 == 0 {
			// Behind a check there is mate more often.
			if list := checks(p); len(list) > 0 {
				p = after(p, list[d.below(len(list))])
			}
		}
		b := board.New(p)
		before := *b
		wantStuck, wantMated := stuck(p), stuck(p) && checked(p)
		if mate.Stuck(b) != wantStuck || mate.Mated(b) != wantMated {
			t.Fatalf("%v: %v %v", p, mate.Stuck(b), mate.Mated(b))
		}
		if *b != before {
			t.Fatal("the board is changed")
		}
		switch {
		case wantMated:
			mated++
		case checked(p):
			out++
		case !wantStuck:
			free++
		}
	}
	if free < 1000 || out < 1000 || mated < 100 {
		t.Errorf("%d are free, %d in check, %d mated", free, out, mated)
	}
}

// K and k are the kings, and so on: Black's are great letters.
const (
	K, k = api.Piece(api.King), api.Piece(api.King + white)
	G, g = api.Piece(api.Gold), api.Piece(api.Gold + white)
	N    = api.Piece(api.Knight)
	S    = api.Piece(api.Silver)
	L, l = api.Piece(api.Lance), api.Piece(api.Lance + white)
	P, w = api.Piece(api.Pawn), api.Piece(api.Pawn + white)
	B    = api.Piece(api.Bishop)
	R, r = api.Piece(api.Rook), api.Piece(api.Rook + white)
	T    = api.Piece(api.Pawn + api.Promoted)
)

func TestStuckAndMatedByHand(t *testing.T) { // P12.1: of Black, whose turn it is, and of White
	rows := []struct {
		name         string
		pieces       map[int]api.Piece
		hand         int
		stuck, mated bool
	}{
		{"stuck, and not in check", map[int]api.Piece{0: K, 80: k, 19: r, 17: r}, 0, true, false},
		{"a drop is left", map[int]api.Piece{0: K, 80: k, 19: r, 17: r}, api.Gold, false, false},
		{"another piece is left", map[int]api.Piece{0: K, 80: k, 19: r, 17: r, 40: P}, 0, false, false},
		{"a pinned piece is left, which takes", map[int]api.Piece{0: K, 80: k, 10: G, 19: r, 17: r, 20: api.Bishop + white}, 0, false, false},
		{"a pinned piece alone, that can't go", map[int]api.Piece{8: K, 72: k, 17: P, 35: r, 70: r}, 0, true, false},
		{"mated", map[int]api.Piece{44: K, 0: k, 43: g, 42: w}, 0, true, true},
		{"mated, and no drop helps", map[int]api.Piece{44: K, 0: k, 43: g, 42: w}, api.Rook, true, true},
		{"in check, and the king takes", map[int]api.Piece{44: K, 0: k, 43: g}, 0, false, false},
		{"in check, and a silver takes", map[int]api.Piece{44: K, 0: k, 43: g, 42: w, 34: S}, 0, true, true},
		{"in check, and a rook takes", map[int]api.Piece{44: K, 0: k, 43: g, 42: w, 16: R}, 0, false, false},
		{"in check from afar, and a drop helps", map[int]api.Piece{44: K, 0: k, 8: r, 16: r}, api.Pawn, false, false},
		{"mated from afar", map[int]api.Piece{44: K, 0: k, 8: r, 16: r}, 0, true, true},
		{"not in check", map[int]api.Piece{44: K, 0: k}, 0, false, false},
	}
	for _, row := range rows {
		p := put(row.pieces)
		p.Hands[0][row.hand%8] = 1
		if row.hand == 0 {
			p.Hands[0][0] = 0
		}
		if e := attack.Check(p); e != api.OK {
			t.Errorf("%s: the position is no good: %v", row.name, e)
		}
		for _, b := range []*board.Board{board.New(p), board.New(turned(p))} {
			if mate.Stuck(b) != row.stuck || mate.Mated(b) != row.mated {
				t.Errorf("%s, side %d: %v %v", row.name, b.Side, mate.Stuck(b), mate.Mated(b))
			}
		}
	}
}

// anyMove is a move at a position: a legal one, one that can be made, or any numbers.
func anyMove(d *dice, p api.Position) api.Move {
	list := legal.All(board.New(p))
	if n := d.below(3); n == 0 && len(list) > 0 {
		return list[d.below(len(list))]
	}
	m := api.Move{From: d.below(api.Squares), To: d.below(api.Squares), Promote: d.below(4) == 0}
	switch d.below(5) {
	case 0, 1:
		m = api.Move{To: m.To, Drop: d.below(9)}
	case 2:
		m.From, m.To = m.From*5-100, m.To*3-50
	}
	return m
}

func TestGives(t *testing.T) { // P12.2: any moves, those of layer 9 alone and those that are none among them; g is as it was
	d := dice(2)
	yes, own, none, no := 0, 0, 0, 0
	for range 3000 {
		g := deed.New(near(&d))
		for range 30 {
			m := anyMove(&d, g.Position)
			now, length := g.Position, g.Len()
			want := g.Can(m) && checked(after(now, m))
			if got := mate.Gives(g, m); got != want {
				t.Fatalf("Gives(%v, %v): %v", now, m, got)
			}
			if g.Position != now || g.Len() != length || g.Key() != key.Of(now) || *g.Board != *board.New(now) {
				t.Fatalf("Gives(%v, %v) has changed the game", now, m)
			}
			behind := now
			if g.Can(m) {
				behind = after(now, m)
				behind.Side = now.Side
			}
			switch {
			case !g.Can(m):
				none++
			case want && checked(behind):
				own++
			case want:
				yes++
			default:
				no++
			}
			if d.below(8) == 0 && slices.Contains(legal.All(g.Board), m) {
				g.Make(m)
			}
		}
		// What was made ahead is taken back as if nothing had been asked.
		for g.Len() > 0 {
			g.Back()
		}
	}
	if yes < 1500 || own < 40 || none < 10000 || no < 10000 {
		t.Errorf("%d give check, %d and leave a check, %d can't be made, %d don't", yes, own, none, no)
	}
}

func TestGivesByHand(t *testing.T) { // P12.2: for both sides
	p := put(map[int]api.Piece{44: K, 36: k, 40: L, 39: S, 72: r, 8: r, 80: G, 29: B, 75: P})
	p.Hands[0] = [8]int8{api.Pawn: 1, api.Knight: 1, api.Gold: 1}
	rows := []struct {
		name string
		m    api.Move
		want bool
	}{
		{"a gold is dropped ahead", api.Move{To: 37, Drop: api.Gold}, true},
		{"a gold is dropped behind a silver", api.Move{To: 38, Drop: api.Gold}, false},
		{"a pawn is dropped ahead", api.Move{To: 37, Drop: api.Pawn}, true},
		{"a knight is dropped", api.Move{To: 47, Drop: api.Knight}, true},
		{"a silver opens a lance's line", api.Move{From: 39, To: 31}, true},
		{"a silver opens it, promoting where it can't", api.Move{From: 39, To: 31, Promote: true}, true},
		{"a silver goes ahead", api.Move{From: 39, To: 38}, false},
		{"a bishop by itself", api.Move{From: 29, To: 28}, true},
		{"a bishop goes and doesn't check", api.Move{From: 29, To: 21}, false},
		{"a king, though that can't be", api.Move{From: 44, To: 37}, true},
		{"it takes the rook, and leaves its own king in check", api.Move{From: 75, To: 72}, false},
		{"a pawn becomes a gold beside the king", api.Move{From: 75, To: 45, Promote: true}, true},
		{"a pawn stays a pawn there", api.Move{From: 75, To: 45}, false},
		{"nothing stands there", api.Move{From: 1, To: 37}, false},
		{"the other side's piece", api.Move{From: 72, To: 63}, false},
		{"onto its own piece", api.Move{From: 40, To: 39}, false},
		{"onto the king", api.Move{From: 39, To: 36}, false},
		{"a drop on a piece", api.Move{To: 39, Drop: api.Gold}, false},
		{"a drop of what isn't in hand", api.Move{To: 37, Drop: api.Rook}, false},
		{"a drop of a king", api.Move{To: 37, Drop: api.King}, false},
		{"a drop of -1", api.Move{To: 37, Drop: -1}, false},
		{"a drop outside", api.Move{To: 81, Drop: api.Gold}, false},
		{"from outside", api.Move{From: -1, To: 37}, false},
		{"to outside", api.Move{From: 39, To: 99}, false},
		{"the zero move", api.Move{}, false},
	}
	if !checked(p) {
		t.Error("Black's own king is in check all along")
	}
	for _, r := range rows {
		g, other := deed.New(p), deed.New(turned(p))
		if got := mate.Gives(g, r.m); got != r.want || g.Position != p || g.Len() != 0 {
			t.Errorf("%s: %v", r.name, got)
		}
		if got := mate.Gives(other, across(r.m)); got != r.want || other.Position != turned(p) || other.Len() != 0 {
			t.Errorf("%s, White's: %v", r.name, got)
		}
	}
}

func TestGivesAndTakesBackItsOwn(t *testing.T) { // P12.2: moves made ahead stay made
	g := deed.New(board.Start())
	for _, m := range []string{"7g7f", "4a3b", "8h3c"} {
		one, _ := move.Parse(m)
		if got := mate.Gives(g, one); got != (m == "8h3c") || !g.Make(one) {
			t.Errorf("%s: %v", m, got)
		}
	}
	now := g.Position
	if mate.Gives(g, api.Move{From: 60, To: 59}) || mate.Gives(g, api.Move{From: 36, To: 37}) || g.Len() != 3 || g.Position != now {
		t.Errorf("%d moves are made", g.Len())
	}
	for g.Back() {
	}
	if g.Position != board.Start() {
		t.Error("it isn't the Start")
	}
}

func TestChecksAndInOne(t *testing.T) { // P12.2, P12.3: any positions that pass layer 8's Check
	d := dice(3)
	several, one, no, none, drops, promoting := 0, 0, 0, 0, 0, 0
	for range 6000 {
		p := near(&d)
		kept := p
		got, want := mate.Checks(p), checks(p)
		if !slices.Equal(got, want) || !slices.IsSortedFunc(got, move.Compare) {
			t.Fatalf("Checks(%v): %v, want %v", p, got, want)
		}
		all := mates(p)
		first, ok := mate.InOne(p)
		if ok != (len(all) > 0) || ok && first != all[0] || !ok && first != (api.Move{}) {
			t.Fatalf("InOne(%v): %v %v, want %v", p, first, ok, all)
		}
		if p != kept {
			t.Fatal("the position is changed")
		}
		for _, m := range got {
			drops += min(m.Drop, 1)
			if m.Promote {
				promoting++
			}
		}
		switch {
		case len(all) > 1 && all[0] != got[0]:
			several++
		case len(all) > 0:
			one++
		case len(got) > 0:
			no++
		default:
			none++
		}
	}
	if several < 25 || one < 40 || no < 1000 || none < 200 || drops < 1000 || promoting < 1000 {
		t.Errorf("%d with several mates, %d with one, %d with none, %d without checks; %d drops, %d promote", several, one, no, none, drops, promoting)
	}
}

// problems are positions on Black's turn, with all moves that give check, and the place of the first one that mates; -1: none does.
var problems = []struct {
	name   string
	pieces map[int]api.Piece
	hand   [8]int8
	checks []api.Move
	first  int
}{
	{"the chapter's", map[int]api.Piece{36: k, 38: P, 80: K}, [8]int8{api.Gold: 1}, []api.Move{{From: 38, To: 37}, {From: 38, To: 37, Promote: true}, {To: 27, Drop: 5}, {To: 28, Drop: 5}, {To: 37, Drop: 5}, {To: 45, Drop: 5}, {To: 46, Drop: 5}}, 4},
	{"several mates, by drops: the first kind", map[int]api.Piece{0: k, 80: K, 2: G, 11: G, 9: l}, [8]int8{api.Pawn: 1, api.Lance: 1, api.Rook: 1}, []api.Move{{From: 2, To: 1}, {From: 2, To: 10}, {From: 11, To: 1}, {From: 11, To: 10}, {To: 1, Drop: 2}, {To: 1, Drop: 7}}, 0},
	{"a move on the board ahead of drops", map[int]api.Piece{0: k, 80: K, 2: S, 20: P, 18: l}, [8]int8{api.Gold: 1}, []api.Move{{From: 2, To: 1}, {From: 2, To: 1, Promote: true}, {From: 2, To: 10}, {From: 2, To: 10, Promote: true}, {To: 1, Drop: 5}, {To: 9, Drop: 5}, {To: 10, Drop: 5}}, 4},
	{"checks, and no mate", map[int]api.Piece{40: k, 80: K}, [8]int8{api.Pawn: 1, api.Knight: 1}, []api.Move{{To: 41, Drop: 1}, {To: 33, Drop: 3}, {To: 51, Drop: 3}}, -1},
	{"a pawn's drop would mate", map[int]api.Piece{0: k, 80: K, 9: l, 12: N, 20: G}, [8]int8{api.Pawn: 1}, []api.Move{{From: 12, To: 1, Promote: true}, {From: 20, To: 10}}, -1},
	{"a pawn on the board mates", map[int]api.Piece{0: k, 80: K, 9: l, 11: G, 2: P}, [8]int8{api.Pawn: 1}, []api.Move{{From: 2, To: 1}, {From: 2, To: 1, Promote: true}, {From: 11, To: 1}, {From: 11, To: 10}}, 0},
	{"no checks", map[int]api.Piece{0: k, 80: K, 44: L}, [8]int8{}, nil, -1},
	{"nothing but kings", map[int]api.Piece{0: k, 80: K}, [8]int8{}, nil, -1},
	{"in check itself: those that answer it", map[int]api.Piece{36: k, 80: K, 8: r, 38: P}, [8]int8{api.Gold: 1}, nil, -1},
	{"a promoted pawn", map[int]api.Piece{36: k, 80: K, 39: T, 47: G}, [8]int8{}, []api.Move{{From: 47, To: 37}, {From: 47, To: 46}}, -1},
}

func TestProblems(t *testing.T) { // P12.2, P12.3: for both sides
	for _, r := range problems {
		p := put(r.pieces)
		p.Hands[0] = r.hand
		if e := attack.Check(p); e != api.OK {
			t.Errorf("%s: the position is no good: %v", r.name, e)
		}
		if got := mate.Checks(p); !slices.Equal(got, r.checks) {
			t.Errorf("%s: %v, want %v", r.name, got, r.checks)
		}
		if got := mate.Checks(turned(p)); !slices.Equal(got, acrossAll(r.checks)) {
			t.Errorf("%s, White's: %v", r.name, got)
		}
		want := api.Move{}
		if r.first >= 0 {
			want = r.checks[r.first]
		}
		if got, ok := mate.InOne(p); got != want || ok != (r.first >= 0) {
			t.Errorf("%s: %v %v, want %v", r.name, got, ok, want)
		}
		if _, ok := mate.InOne(turned(p)); ok != (r.first >= 0) {
			t.Errorf("%s, White's: %v", r.name, ok)
		}
	}
}

// spoil fills a list, and its spare room.
func spoil(list []api.Move) {
	list = list[:cap(list)]
	for i := range list {
		list[i] = api.Move{From: -7, To: 99, Drop: -1, Promote: true}
	}
}

func TestNothingIsKept(t *testing.T) { // P2
	d := dice(4)
	for range 300 {
		p := near(&d)
		first, second := mate.Checks(p), mate.Checks(p)
		want := slices.Clone(second)
		spoil(first)
		if !slices.Equal(second, want) || !slices.Equal(mate.Checks(p), want) {
			t.Fatal("an answer is shared")
		}
		move, ok := mate.InOne(p)
		mate.InOne(near(&d))
		if again, okAgain := mate.InOne(p); again != move || okAgain != ok {
			t.Fatal("something is kept")
		}
	}
}

func TestNoCallPanics(t *testing.T) { // P1: also of positions of which nothing else is promised
	d := dice(5)
	for range 600 {
		p := raw(&d)
		b := board.New(p)
		mate.Stuck(b)
		mate.Mated(b)
		mate.Checks(p)
		mate.InOne(p)
		g := deed.New(p)
		for range 20 {
			mate.Gives(g, anyMove(&d, p))
			mate.Gives(g, api.Move{From: d.below(1000) - 500, To: d.below(1000) - 500, Drop: d.below(100) - 50, Promote: d.below(2) == 0})
		}
	}
	if m, ok := mate.InOne(api.Position{}); ok || m != (api.Move{}) || len(mate.Checks(api.Position{})) > 0 {
		t.Error("of nothing")
	}
}
