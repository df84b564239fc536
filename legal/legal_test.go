package legal_test

import (
	"math"
	"slices"
	"testing"

	"kakugyo/api"
	"kakugyo/attack"
	"kakugyo/board"
	"kakugyo/gen"
	"kakugyo/legal"
	"kakugyo/move"
	"kakugyo/ray"
	"kakugyo/set"
)

const white = 16

// wrong is what is no square: the nearest ones, those that a product or fewer bits would wrap round to one, and the farthest.
var wrong = []int{-1, -2, -9, -10, -81, 81, 82, 89, 90, 99, 127, 128, 255, 256, 256 + 40, 1<<16 + 40, 1 << 32, 1<<32 + 40, -1<<32 + 40, math.MinInt, math.MinInt + 40, math.MaxInt}

// wrongKinds are what is no kind that can be dropped.
var wrongKinds = []int{8, 9, 10, 11, 12, 13, 14, 15, 16, 17, 18, 23, 31, 32, 33, -1, -7, -15, 255, 256, 257, 1<<16 + 1, 1<<32 + 1, -1<<32 + 1, math.MinInt, math.MinInt + 1, math.MaxInt}

// dice are numbers without a pattern, the same ones in each run.
type dice uint64

func (d *dice) below(n int) int {
	*d = *d*6364136223846793005 + 1442695040888963407
	return int(uint64(*d) >> 33 % uint64(n))
}

// sideOf is told by the number alone; -1: it is no piece.
func sideOf(x api.Piece) int {
	switch {
	case x >= 1 && x <= 15 && x != 13:
		return 0
	case x >= 17 && x <= 31 && x != 29:
		return 1
	}
	return -1
}

// taken is where pieces stand.
func taken(p api.Position) set.Set {
	var s set.Set
	for at, x := range p.Board {
		if sideOf(x) >= 0 {
			s = s.With(at)
		}
	}
	return s
}

// checks is how many pieces attack a side's king, told piece by piece.
func checks(p api.Position, side int) int {
	n := 0
	king := slices.Index(p.Board[:], api.Piece(api.King+white*side))
	full := taken(p)
	for at, x := range p.Board {
		if sideOf(x) == 1-side && ray.Of(x, at, full).Has(king) {
			n++
		}
	}
	return n
}

// after is the position behind a move of layer 10.
func after(p api.Position, m api.Move) api.Position {
	side := p.Side
	p.Side = 1 - side
	if m.Drop != 0 {
		p.Hands[side][m.Drop]--
		p.Board[m.To] = api.Piece(m.Drop) + api.Piece(white*side)
		return p
	}
	if x := p.Board[m.To]; x != 0 {
		p.Hands[side][x%8]++
	}
	p.Board[m.To], p.Board[m.From] = p.Board[m.From], 0
	if m.Promote {
		p.Board[m.To] += api.Promoted
	}
	return p
}

// escapes is whether a move of layer 10 leads the side to move out of check.
func escapes(p api.Position) bool {
	for _, m := range gen.All(board.New(p)) {
		if checks(after(p, m), int(p.Side)) == 0 {
			return true
		}
	}
	return false
}

// rules is P11.1 told move by move, and also how many moves fall by a pawn's mate alone.
func rules(p api.Position) (list []api.Move, pawnMates int) {
	for _, m := range gen.All(board.New(p)) {
		next := after(p, m)
		switch {
		case checks(next, int(p.Side)) > 0:
		case m.Drop == api.Pawn && checks(next, int(next.Side)) > 0 && !escapes(next):
			pawnMates++
		default:
			list = append(list, m)
		}
	}
	return list, pawnMates
}

// pawnMates is P11.3 told by the position with the pawn.
func pawnMates(p api.Position, q int) bool {
	if q < 0 || q >= api.Squares || p.Board[q] != 0 {
		return false
	}
	before := checks(p, int(1-p.Side))
	p.Board[q] = api.Pawn + api.Piece(white*p.Side)
	p.Side = 1 - p.Side
	return checks(p, int(p.Side)) > before && !escapes(p)
}

// put is a position with pieces on squares.
func put(pieces map[int]api.Piece) api.Position {
	var p api.Position
	for q, x := range pieces {
		p.Board[q] = x
	}
	return p
}

// turned is a position seen from the other side.
func turned(p api.Position) api.Position {
	other := api.Position{Hands: [2][8]int8{p.Hands[1], p.Hands[0]}, Side: 1 - p.Side}
	for q, x := range p.Board {
		if side := sideOf(x); side >= 0 {
			other.Board[80-q] = x%white + api.Piece(white*(1-side))
		}
	}
	return other
}

// across is a move seen from the other side.
func across(m api.Move) api.Move {
	m.To = 80 - m.To
	if m.Drop == 0 {
		m.From = 80 - m.From
	}
	return m
}

// kings is a position of Black's king and White's, or of one of them, if they are on one square.
func kings(black, other int) api.Position {
	return put(map[int]api.Piece{black: api.King, other: api.King + white})
}

// raw is a position of any numbers.
func raw(d *dice) api.Position {
	var p api.Position
	full := 1 + d.below(10)
	for q := range p.Board {
		if d.below(10) < full {
			p.Board[q] = api.Piece(d.below(34))
		}
		if d.below(20) == 0 {
			p.Board[q] = api.Piece(d.below(256))
		}
	}
	for side := range p.Hands {
		for kind := range p.Hands[side] {
			p.Hands[side][kind] = int8(d.below(256))
		}
	}
	p.Side = int8(d.below(256))
	if d.below(2) == 0 {
		p.Side = int8(d.below(2))
	}
	return p
}

// with is the position with one piece more, if that can be.
func with(p api.Position, q int, x api.Piece) api.Position {
	next := p
	next.Board[q] = x
	if p.Board[q] == 0 && attack.Check(next) == api.OK {
		return next
	}
	return p
}

// holding is the position with one more in hand, if that can be.
func holding(p api.Position, side, kind int) api.Position {
	next := p
	next.Hands[side][kind]++
	if attack.Check(next) == api.OK {
		return next
	}
	return p
}

const kinds = "\x01\x02\x03\x04\x05\x06\x07\x09\x0a\x0b\x0c\x0e\x0f"

// anyPiece is one of either side, no king.
func anyPiece(d *dice) api.Piece {
	return api.Piece(kinds[d.below(len(kinds))]) + api.Piece(white*d.below(2))
}

// slider is one that slides.
func slider(d *dice, side int) api.Piece {
	return api.Piece("\x02\x06\x07\x0e\x0f"[d.below(5)]) + api.Piece(white*side)
}

// path is the squares from one on to the edge, so many files and ranks on each; none of the zero way.
func path(q, files, ranks int) []int {
	var list []int
	for n := 1; n <= 8 && (files != 0 || ranks != 0); n++ {
		file, rank := q/9+n*files, q%9+n*ranks
		if file < 0 || file > 8 || rank < 0 || rank > 8 {
			break
		}
		list = append(list, 9*file+rank)
	}
	return list
}

// proper is a position that passes layer 8's Check, in which the side to move is now and then in check, has pieces that are pinned, and pieces in hand.
func proper(d *dice) api.Position {
	p := kings(d.below(api.Squares), d.below(api.Squares))
	for attack.Check(p) != api.OK {
		p = kings(d.below(api.Squares), d.below(api.Squares))
	}
	p.Side = int8(d.below(2))
	king := slices.Index(p.Board[:], api.King+api.Piece(white*p.Side))
	for range d.below(5) {
		way := path(king, d.below(3)-1, d.below(3)-1)
		if len(way) < 2 {
			continue
		}
		i := d.below(len(way) - 1)
		if d.below(3) > 0 {
			p = with(p, way[i], anyPiece(d)%white+api.Piece(white*p.Side))
		}
		p = with(p, way[i+1+d.below(len(way)-i-1)], slider(d, int(1-p.Side)))
	}
	return filled(d, p, 16)
}

// filled is the position with some pieces more, on the board and in hand.
func filled(d *dice, p api.Position, most int) api.Position {
	for range d.below(most) {
		p = with(p, d.below(api.Squares), anyPiece(d))
	}
	for range d.below(6) {
		p = holding(p, d.below(2), 1+d.below(7))
	}
	return p
}

// boxed is a position that passes layer 8's Check, in which pieces stand close round the king of the side that isn't to move.
func boxed(d *dice) api.Position {
	p := kings(72+d.below(9), 9*d.below(9))
	for attack.Check(p) != api.OK {
		p = kings(72+d.below(9), 9*d.below(9))
	}
	king := slices.Index(p.Board[:], api.King+white)
	for range d.below(20) {
		file, rank := king/9+d.below(5)-2, king%9+d.below(4)-1
		if file >= 0 && file <= 8 && rank >= 0 && rank <= 8 {
			p = with(p, 9*file+rank, anyPiece(d))
		}
	}
	p = holding(holding(p, 0, api.Pawn), 1, api.Pawn)
	p = filled(d, p, 4)
	if d.below(2) == 0 {
		return turned(p)
	}
	return p
}

// agrees holds All against the rules at a position, and counts what there was.
func agrees(t *testing.T, p api.Position, seen map[string]int) {
	t.Helper()
	b := board.New(p)
	before := *b
	got := legal.All(b)
	want, pawnMates := rules(p)
	if !slices.Equal(got, want) {
		t.Fatalf("All(%v): %v, want %v", p, got, want)
	}
	if !slices.IsSortedFunc(got, move.Compare) {
		t.Fatalf("All(%v): %v, not in order", p, got)
	}
	if *b != before {
		t.Fatal("the board is changed")
	}
	seen["all"]++
	switch n := checks(p, int(p.Side)); {
	case n == 1:
		seen["in check"]++
	case n > 1:
		seen["in check by two"]++
	}
	if pawnMates > 0 {
		seen["a pawn would mate"]++
	}
	if len(got) == 0 {
		seen["none"]++
	}
	if len(attack.Pinned(b, int(p.Side))) > 0 {
		seen["pinned"]++
	}
	if len(got) < len(gen.All(b)) {
		seen["not all"]++
	}
}

func TestAll(t *testing.T) { // P11.1, P11.2: any positions that pass layer 8's Check
	d := dice(1)
	seen := map[string]int{}
	for range 3000 {
		agrees(t, proper(&d), seen)
		agrees(t, boxed(&d), seen)
	}
	for name, least := range map[string]int{"all": 6000, "in check": 700, "in check by two": 50, "a pawn would mate": 50, "none": 20, "pinned": 700, "not all": 2000} {
		if seen[name] < least {
			t.Errorf("%s: %d times only", name, seen[name])
		}
	}
}

func TestAllInGames(t *testing.T) { // P11.1, P11.2: games of any legal moves
	d := dice(2)
	seen := map[string]int{}
	for range 25 {
		p := board.Start()
		for range 120 {
			agrees(t, p, seen)
			list := legal.All(board.New(p))
			if len(list) == 0 {
				break
			}
			p = after(p, list[d.below(len(list))])
		}
	}
	if seen["all"] < 2000 || seen["in check"] < 50 {
		t.Errorf("so often: %v", seen)
	}
}

// leaves is how many games of so many moves there are.
func leaves(p api.Position, depth int) int {
	list := legal.All(board.New(p))
	if depth == 1 {
		return len(list)
	}
	n := 0
	for _, m := range list {
		n += leaves(after(p, m), depth-1)
	}
	return n
}

func TestHowManyGames(t *testing.T) { // P11.1, P11.2: numbers that are known of shogi
	for n, want := range []int{30, 900, 25470} {
		if got := leaves(board.Start(), n+1); got != want {
			t.Errorf("of %d moves: %d games, want %d", n+1, got, want)
		}
	}
	// The most legal moves that a position is known to have.
	p := put(map[int]api.Piece{72: R, 55: K, 37: S, 19: S, 10: S, 1: k, 38: B, 71: L, 53: L, 35: L})
	p.Hands[0] = [8]int8{0, 1, 1, 1, 1, 1, 1, 1}
	p.Hands[1] = [8]int8{api.Pawn: 17, api.Knight: 3, api.Gold: 3}
	if e := attack.Check(p); e != api.OK || leaves(p, 1) != 593 || leaves(p, 2) != 105677 {
		t.Errorf("%v: %d moves, %d games of two", e, leaves(p, 1), leaves(p, 2))
	}
}

// K and k are the kings, and so on: Black's are great letters.
const (
	K, k = api.Piece(api.King), api.Piece(api.King + white)
	G, g = api.Piece(api.Gold), api.Piece(api.Gold + white)
	S, s = api.Piece(api.Silver), api.Piece(api.Silver + white)
	N, n = api.Piece(api.Knight), api.Piece(api.Knight + white)
	L, l = api.Piece(api.Lance), api.Piece(api.Lance + white)
	P    = api.Piece(api.Pawn)
	B, b = api.Piece(api.Bishop), api.Piece(api.Bishop + white)
	R, r = api.Piece(api.Rook), api.Piece(api.Rook + white)
)

// goes are moves on the board from a square.
func goes(from int, to ...int) []api.Move {
	var list []api.Move
	for _, q := range to {
		list = append(list, api.Move{From: from, To: q})
	}
	return list
}

// drops are drops of a kind.
func drops(kind int, to ...int) []api.Move {
	var list []api.Move
	for _, q := range to {
		list = append(list, api.Move{To: q, Drop: kind})
	}
	return list
}

// rows are positions, on Black's turn with one of each kind in hand, with moves of layer 10's All: those that are legal, and those that aren't.
var rows = []struct {
	name    string
	pieces  map[int]api.Piece
	yes, no []api.Move
}{
	{"a king onto attacked squares", map[int]api.Piece{44: K, 0: k, 7: r}, goes(44, 35, 53), goes(44, 34, 43, 52)},
	{"a king along the line of a rook", map[int]api.Piece{44: K, 0: k, 8: r}, goes(44, 34, 43, 52), goes(44, 35, 53)},
	{"a king along the line of a lance", map[int]api.Piece{42: K, 0: k, 39: l}, goes(42, 32, 33, 34, 50, 51, 52), goes(42, 41, 43)},
	{"a king along the line of a bishop", map[int]api.Piece{40: K, 0: k, 10: b}, goes(40, 31, 32, 39, 41, 48, 49), goes(40, 30, 50)},
	{"a king that takes what checks", map[int]api.Piece{44: K, 0: k, 43: g}, goes(44, 43), goes(44, 34, 35, 52, 53)},
	{"a king that takes what is held", map[int]api.Piece{44: K, 0: k, 43: g, 40: l}, nil, goes(44, 43, 34, 35, 52, 53)},
	{"a king that takes what is held from behind", map[int]api.Piece{44: K, 0: k, 35: r, 8: r}, goes(44, 43, 52), goes(44, 35, 53, 34)},
	{"a king beside a king", map[int]api.Piece{44: K, 42: k}, goes(44, 35, 53), goes(44, 34, 43, 52)},
	{"a pinned rook", map[int]api.Piece{44: K, 0: k, 41: R, 38: l}, goes(41, 43, 42, 40, 39, 38), goes(41, 32, 50, 5, 77)},
	{"a pinned gold", map[int]api.Piece{44: K, 0: k, 35: G, 8: r}, goes(35, 26), goes(35, 25, 34, 43)},
	{"a pinned silver", map[int]api.Piece{44: K, 0: k, 34: S, 14: b}, goes(34, 24), goes(34, 33, 42, 26)},
	{"a pinned knight", map[int]api.Piece{44: K, 0: k, 43: N, 40: l}, nil, goes(43, 32, 50)},
	{"a pinned pawn", map[int]api.Piece{44: K, 0: k, 43: P, 40: r}, goes(43, 42), nil},
	{"a pawn that is pinned aslant", map[int]api.Piece{44: K, 0: k, 34: P, 14: b}, nil, goes(34, 33)},
	{"two between: not pinned", map[int]api.Piece{44: K, 0: k, 43: G, 42: S, 40: l}, append(goes(43, 33, 34), goes(42, 32, 34)...), nil},
	{"not in check: drops anywhere", map[int]api.Piece{44: K, 0: k, 43: G, 40: l}, append(drops(api.Gold, 42, 41, 39, 80), drops(api.Pawn, 80, 20)...), nil},
	{"in check by a rook", map[int]api.Piece{44: K, 72: k, 8: r, 25: G, 4: R, 61: S}, slices.Concat(goes(4, 8), goes(25, 26), goes(44, 34, 43, 52), drops(api.Gold, 17, 26, 35), drops(api.Pawn, 17, 26, 35)), slices.Concat(goes(4, 5, 13), goes(25, 24, 34), goes(61, 60, 53), goes(44, 35, 53), drops(api.Gold, 36, 53, 7), drops(api.Lance, 53, 80))},
	{"in check by a rook, with a promotion between", map[int]api.Piece{0: k, 1 + 63: K, 1 + 9: r, 2 + 27: L}, []api.Move{{From: 29, To: 28, Promote: true}, {From: 29, To: 28}}, []api.Move{{From: 29, To: 27, Promote: true}}},
	{"in check by a knight", map[int]api.Piece{44: K, 0: k, 33: n, 80: R}, goes(44, 34, 43, 35, 52, 53), slices.Concat(goes(80, 71, 79), drops(api.Gold, 34, 43, 42, 38), drops(api.Pawn, 43))},
	{"in check by a knight, which is taken", map[int]api.Piece{44: K, 0: k, 33: n, 35: B, 78: R}, append(goes(78, 33), goes(44, 34)...), append(goes(78, 77, 42), goes(35, 25, 43)...)},
	{"in check by a silver that is held: the king alone", map[int]api.Piece{44: K, 0: k, 43: s, 40: l, 79: R}, goes(44, 34, 52), slices.Concat(goes(44, 43, 35, 53), drops(api.Gold, 34, 42), goes(79, 78, 70))},
	{"in check by a gold, which a rook takes", map[int]api.Piece{44: K, 0: k, 43: g, 16: R}, append(goes(16, 43), goes(44, 43)...), slices.Concat(drops(api.Pawn, 34, 35), drops(api.Rook, 34, 53), goes(16, 7, 15))},
	{"in check by two: the king alone", map[int]api.Piece{44: K, 0: k, 8: r, 33: n, 24: G, 25: S}, goes(44, 34, 43, 52), slices.Concat(goes(24, 33), goes(25, 33), goes(44, 35, 53), drops(api.Gold, 35, 26), drops(api.Pawn, 17))},
	{"in check by two on lines: the king alone", map[int]api.Piece{40: K, 0: k, 37: l, 10: b, 49: G, 28: S}, goes(40, 31, 32, 48), slices.Concat(goes(40, 39, 41, 50, 30), goes(49, 48), drops(api.Gold, 39, 20, 38, 30))},
	{"pinned, and the check lies elsewhere", map[int]api.Piece{44: K, 0: k, 43: R, 40: l, 26: r}, append(goes(44, 34, 52), drops(api.Gold, 35)...), append(goes(43, 42, 34, 40, 52), goes(44, 35, 53)...)},
	{"a pawn that mates", map[int]api.Piece{0: k, 80: K, 2: G, 11: G, 9: l}, slices.Concat(drops(api.Lance, 1), drops(api.Gold, 1), drops(api.Rook, 1), drops(api.Pawn, 3, 10, 20)), drops(api.Pawn, 1)},
	{"a pawn that a gold takes", map[int]api.Piece{0: k, 80: K, 2: G, 11: G, 9: l, 10: g}, drops(api.Pawn, 1), nil},
	{"a pawn that a rook takes from afar", map[int]api.Piece{0: k, 62: K, 2: G, 20: G, 9: l, 73: r}, drops(api.Pawn, 1), nil},
	{"a pawn that the king takes", map[int]api.Piece{0: k, 80: K, 12: G, 9: l, 20: G}, drops(api.Pawn, 1), nil},
	{"a pawn from which the king goes away", map[int]api.Piece{0: k, 80: K, 2: G, 11: G}, drops(api.Pawn, 1), nil},
	{"a pawn that a pinned piece could take", map[int]api.Piece{0: k, 80: K, 2: G, 9: l, 10: g, 20: B}, drops(api.Lance, 1), drops(api.Pawn, 1)},
	{"a pawn that closes its own rook's line", map[int]api.Piece{36: k, 80: K, 1: R, 27: l, 45: l}, drops(api.Pawn, 37), nil},
	{"a pawn that mates beside that line", map[int]api.Piece{36: k, 80: K, 1: R, 27: l, 45: l, 47: G}, append(drops(api.Gold, 37), drops(api.Lance, 37)...), drops(api.Pawn, 37)},
	{"a pawn that answers a check, and mates", map[int]api.Piece{36: k, 55: K, 28: r, 20: B, 27: l, 45: l, 38: G}, append(drops(api.Lance, 37, 46), drops(api.Pawn, 46)...), append(drops(api.Pawn, 37), drops(api.Gold, 39)...)},
	{"a pawn that mates, though its side is in check", map[int]api.Piece{0: k, 80: K, 2: G, 11: G, 9: l, 8: r}, drops(api.Pawn, 17), append(drops(api.Pawn, 1), drops(api.Lance, 1)...)},
	{"a pawn farther ahead of a king that can do nothing", map[int]api.Piece{0: k, 80: K, 19: R, 17: R}, drops(api.Pawn, 2, 3), drops(api.Pawn, 1)},
	{"a pawn two squares ahead", map[int]api.Piece{0: k, 80: K, 3: G, 11: G, 9: l}, drops(api.Pawn, 2), nil},
	{"the same mate by a pawn on the board", map[int]api.Piece{0: k, 80: K, 2: P, 11: G, 9: l}, []api.Move{{From: 2, To: 1}, {From: 2, To: 1, Promote: true}}, nil},
}

// at is a row's position, with one of each kind in hand.
func at(pieces map[int]api.Piece) api.Position {
	p := put(pieces)
	for kind := 1; kind < 8; kind++ {
		p = holding(p, 0, kind)
	}
	return p
}

func TestByHand(t *testing.T) { // P11.1, P11.2: for both sides
	for _, r := range rows {
		p := at(r.pieces)
		if e := attack.Check(p); e != api.OK || p.Hands[0][api.Pawn]*p.Hands[0][api.Gold]*p.Hands[0][api.Lance] != 1 {
			t.Errorf("%s: the position is no good: %v", r.name, e)
		}
		b, other := board.New(p), board.New(turned(p))
		for _, m := range append(slices.Clone(r.yes), r.no...) {
			want := slices.Contains(r.yes, m)
			if !slices.Contains(gen.All(b), m) {
				t.Errorf("%s: %v is none of layer 10's", r.name, m)
			}
			if legal.Is(b, m) != want || slices.Contains(legal.All(b), m) != want {
				t.Errorf("%s: %v isn't %v", r.name, m, want)
			}
			if n := across(m); legal.Is(other, n) != want || slices.Contains(legal.All(other), n) != want {
				t.Errorf("%s, White's: %v isn't %v", r.name, n, want)
			}
		}
	}
}

func TestTheExample(t *testing.T) { // P11.2: the chapter's, in their order
	var want []api.Move
	for _, m := range []string{"1g1f", "1i1h"} {
		one, _ := move.Parse(m)
		want = append(want, one)
	}
	list := legal.All(board.New(board.Start()))
	if len(list) != 30 || !slices.Equal(list[:2], want) || !slices.Equal(list, gen.All(board.New(board.Start()))) {
		t.Errorf("%d moves: %v", len(list), list)
	}
}

func TestIs(t *testing.T) { // P11.2: all moves that there are, and all that are none
	d := dice(3)
	squares := slices.Clone(wrong)
	for q := range api.Squares {
		squares = append(squares, q)
	}
	positions := []api.Position{board.Start()}
	for range 3 {
		positions = append(positions, proper(&d), boxed(&d))
	}
	for _, p := range positions {
		b := board.New(p)
		want, _ := rules(p)
		is := func(m api.Move) {
			// Layer 10 has none of most moves; asking for those wouldn't end soon.
			if !slices.Contains(want, m) && d.below(40) > 0 {
				return
			}
			if got := legal.Is(b, m); got != slices.Contains(want, m) {
				t.Fatalf("Is(%v, %v): %v", p, m, got)
			}
		}
		for _, to := range squares {
			for _, from := range squares {
				is(api.Move{From: from, To: to})
				is(api.Move{From: from, To: to, Promote: true})
			}
			for kind := range 8 {
				is(api.Move{To: to, Drop: kind})
				is(api.Move{From: 1 + d.below(80), To: to, Drop: kind})
				is(api.Move{To: to, Drop: kind, Promote: true})
			}
			for _, kind := range wrongKinds {
				is(api.Move{To: to, Drop: kind})
			}
		}
	}
}

func TestIsByHand(t *testing.T) { // P11.2: what is no move at all, and what differs from a legal one in one thing
	p := at(map[int]api.Piece{44: K, 0: k, 40: S, 11: P})
	b := board.New(p)
	rows := []struct {
		m    api.Move
		want bool
	}{
		{api.Move{From: 40, To: 39}, true},
		{api.Move{From: 40, To: 39, Promote: true}, false},
		{api.Move{From: 40, To: 39, Drop: api.Silver}, false},
		{api.Move{From: 40, To: 41}, false},
		{api.Move{From: 41, To: 39}, false},
		{api.Move{From: 40, To: 40}, false},
		{api.Move{From: 11, To: 10}, true},
		{api.Move{From: 11, To: 10, Promote: true}, true},
		{api.Move{To: 41, Drop: api.Silver}, true},
		{api.Move{From: 1, To: 41, Drop: api.Silver}, false},
		{api.Move{To: 41, Drop: api.Silver, Promote: true}, false},
		{api.Move{To: 40, Drop: api.Silver}, false},
		{api.Move{To: 41, Drop: api.King}, false},
		{api.Move{To: 41, Drop: -1}, false},
		{api.Move{To: 41, Drop: 16 + api.Silver}, false},
		{api.Move{To: 81, Drop: api.Silver}, false},
		{api.Move{To: -1, Drop: api.Silver}, false},
		{api.Move{From: -1, To: 39}, false},
		{api.Move{From: 81, To: 39}, false},
		{api.Move{}, false},
	}
	for _, r := range rows {
		if got := legal.Is(b, r.m); got != r.want {
			t.Errorf("%v: %v", r.m, got)
		}
	}
}

func TestPawnMates(t *testing.T) { // P11.3: every square, and what is none, of any positions that pass layer 8's Check
	d := dice(4)
	yes, no, checking := 0, 0, 0
	for n := range 6000 {
		p := boxed(&d)
		if n%3 == 0 {
			p = proper(&d)
		}
		b := board.New(p)
		before := *b
		for q := range api.Squares {
			got, want := legal.PawnMates(b, q), pawnMates(p, q)
			if got != want {
				t.Fatalf("PawnMates(%v, %d): %v", p, q, got)
			}
			if got {
				yes++
			}
		}
		for _, q := range wrong {
			if legal.PawnMates(b, q) {
				t.Fatalf("PawnMates(%d), which is no square", q)
			}
		}
		king := slices.Index(p.Board[:], K+api.Piece(white*(1-p.Side)))
		if front := king + 1 - 2*int(p.Side); front/9 == king/9 && p.Board[max(front, 0)] == 0 {
			checking++
			if !legal.PawnMates(b, front) {
				no++
			}
		}
		if *b != before {
			t.Fatal("the board is changed")
		}
	}
	if yes < 60 || no < 1000 || checking < 1000 {
		t.Errorf("%d mates, %d none, %d checks", yes, no, checking)
	}
}

func TestPawnMatesByHand(t *testing.T) { // P11.3: for both sides, whether a pawn is in hand or not
	mate := map[int]api.Piece{0: k, 80: K, 2: G, 11: G, 9: l}
	rows := []struct {
		name   string
		pieces map[int]api.Piece
		q      int
		want   bool
	}{
		{"it mates", mate, 1, true},
		{"elsewhere", mate, 3, false},
		{"beside the king", mate, 10, false},
		{"on the king", mate, 0, false},
		{"on a taken square", mate, 9, false},
		{"on its own piece", mate, 2, false},
		{"on its own king", mate, 80, false},
		{"below the squares", mate, -1, false},
		{"past the squares", mate, 81, false},
		{"far past them", mate, 82, false},
		{"the square ahead is taken by the other side", map[int]api.Piece{0: k, 80: K, 2: G, 11: G, 9: l, 1: P + white}, 1, false},
		{"the square ahead is taken by its own", map[int]api.Piece{0: k, 80: K, 2: P, 11: G, 9: l, 10: l, 1: S}, 1, false},
		{"in a file that has a pawn already", map[int]api.Piece{0: k, 80: K, 2: G, 11: G, 9: l, 6: P}, 1, true},
		{"the king takes it", map[int]api.Piece{0: k, 80: K, 12: G, 9: l, 20: G}, 1, false},
		{"the king goes away", map[int]api.Piece{0: k, 80: K, 2: G, 11: G}, 1, false},
		{"a gold takes it", map[int]api.Piece{0: k, 80: K, 2: G, 11: G, 9: l, 10: g}, 1, false},
		{"a pinned gold could take it", map[int]api.Piece{0: k, 80: K, 2: G, 9: l, 10: g, 20: B}, 1, true},
		{"it closes its own line", map[int]api.Piece{36: k, 80: K, 1: R, 27: l, 45: l}, 37, false},
		{"beside that line", map[int]api.Piece{36: k, 80: K, 1: R, 27: l, 45: l, 47: G}, 37, true},
		{"farther ahead of a king that can do nothing", map[int]api.Piece{0: k, 80: K, 19: R, 17: R}, 2, false},
		{"ahead of a king that can do nothing", map[int]api.Piece{0: k, 80: K, 19: R, 17: R}, 1, true},
		{"its own side is in check", map[int]api.Piece{0: k, 80: K, 2: G, 11: G, 9: l, 8: r}, 1, true},
		{"the king's own pieces stand round it", map[int]api.Piece{36: k, 80: K, 38: G, 27: l, 45: l, 28: s, 46: s}, 37, true},
		{"no square lies ahead of the king", map[int]api.Piece{8: k, 80: K, 17: l, 16: l, 7: l}, 9, false},
	}
	for _, r := range rows {
		for n := range int8(2) {
			p := put(r.pieces)
			p.Hands[0][api.Pawn], p.Hands[1][api.Pawn] = n, n
			if got := legal.PawnMates(board.New(p), r.q); got != r.want {
				t.Errorf("%s: %v", r.name, got)
			}
			if got := legal.PawnMates(board.New(turned(p)), 80-r.q); got != r.want {
				t.Errorf("%s, White's: %v", r.name, got)
			}
			// On the other side's turn the same square is none from which its pawn attacks.
			p.Side = 1
			if attack.Check(p) == api.OK && legal.PawnMates(board.New(p), r.q) {
				t.Errorf("%s: on White's turn, too", r.name)
			}
		}
	}
}

// spoil fills a list, and its spare room.
func spoil(list []api.Move) {
	list = list[:cap(list)]
	for i := range list {
		list[i] = api.Move{From: -7, To: 99, Drop: -1, Promote: true}
	}
}

func TestNothingIsKept(t *testing.T) { // P2: answers are new memory, and boards stay as they are
	d := dice(5)
	for range 300 {
		p := boxed(&d)
		b := board.New(p)
		before := *b
		first, second := legal.All(b), legal.All(b)
		want := slices.Clone(second)
		spoil(first)
		if !slices.Equal(second, want) || !slices.Equal(legal.All(b), want) {
			t.Fatal("an answer is shared")
		}
		spoil(second)
		for _, m := range want {
			if !legal.Is(b, m) {
				t.Fatal("Is has kept an answer")
			}
		}
		if *b != before {
			t.Fatal("the board is changed")
		}
		// A board that changes is told as it is then.
		next := p
		next.Side = 1 - p.Side
		b.Side = next.Side
		if attack.Check(next) == api.OK && !slices.Equal(legal.All(b), legal.All(board.New(next))) {
			t.Fatal("a board is kept")
		}
	}
}

func TestNoCallPanics(t *testing.T) { // P1: also of boards of which nothing else is promised
	d := dice(6)
	for range 3000 {
		p := raw(&d)
		b := board.New(p)
		for _, m := range legal.All(b) {
			if d.below(30) == 0 {
				legal.Is(b, m)
			}
		}
		for range 4 {
			legal.Is(b, api.Move{From: d.below(90) - 5, To: d.below(90) - 5, Promote: d.below(2) == 0})
			legal.Is(b, api.Move{From: wrong[d.below(len(wrong))], To: wrong[d.below(len(wrong))], Drop: wrongKinds[d.below(len(wrongKinds))]})
		}
		for q := -10; q < 92; q++ {
			legal.PawnMates(b, q)
		}
		for _, q := range wrong {
			legal.PawnMates(b, q)
		}
	}
	empty := board.New(api.Position{})
	if len(legal.All(empty)) > 0 || legal.Is(empty, api.Move{}) || legal.PawnMates(empty, 40) {
		t.Error("of nothing")
	}
}
