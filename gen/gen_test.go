package gen_test

import (
	"math"
	"slices"
	"testing"

	"kakugyo/api"
	"kakugyo/board"
	"kakugyo/gen"
	"kakugyo/move"
	"kakugyo/ray"
	"kakugyo/set"
)

const white = 16

// wrong is what is no square: the nearest ones, those that a product or fewer bits would wrap round to one, and the farthest.
var wrong = []int{-1, -2, -9, -10, -81, 81, 82, 89, 90, 99, 127, 128, 255, 256, 256 + 40, 1<<16 + 40, 1 << 32, 1<<32 + 40, -1<<32 + 40, math.MinInt, math.MinInt + 40, math.MaxInt}

// wrongSides are what is no side.
var wrongSides = []int{-1, -2, 2, 3, 8, 15, 16, 17, 255, 256, 257, 1<<16 + 1, 1 << 32, 1<<32 + 1, -1 << 32, -1<<32 + 1, math.MinInt, math.MinInt + 1, math.MinInt + 2, math.MaxInt, math.MaxInt - 1}

// wrongKinds are what is no kind that can be dropped.
var wrongKinds = []int{0, 8, 9, 10, 11, 12, 13, 14, 15, 16, 17, 18, 23, 31, 32, 33, -1, -7, -15, 255, 256, 257, 1<<16 + 1, 1<<32 + 1, -1<<32 + 1, math.MinInt, math.MinInt + 1, math.MaxInt}

// dice are numbers without a pattern, the same ones in each run.
type dice uint64

func (d *dice) below(n int) int {
	*d = *d*6364136223846793005 + 1442695040888963407
	return int(uint64(*d) >> 33 % uint64(n))
}

// sideOf is told by the number alone; -1: it is no piece.
func sideOf(x api.Piece) int {
	switch {
	case x >= 1 && x <= 15 && x != 13:
		return 0
	case x >= 17 && x <= 31 && x != 29:
		return 1
	}
	return -1
}

// ahead is how many ranks lie ahead of a square.
func ahead(side, q int) int {
	if side == 0 {
		return q % 9
	}
	return 8 - q%9
}

// dead is whether a piece could never move from a square.
func dead(x api.Piece, q int) bool {
	far := ahead(sideOf(x), q)
	switch x % white {
	case api.Pawn, api.Lance:
		return far < 1
	case api.Knight:
		return far < 2
	}
	return false
}

// promotes is P10.1 told by numbers.
func promotes(x api.Piece, from, to int) (bool, bool) {
	if sideOf(x) < 0 || x%white >= api.King || x%white == api.Gold {
		return false, false
	}
	may, must := false, false
	for _, q := range []int{from, to} {
		may = may || q >= 0 && q < api.Squares && ahead(sideOf(x), q) <= 2
	}
	if to >= 0 && to < api.Squares {
		must = dead(x, to)
	}
	return may, must
}

// taken is where pieces stand.
func taken(p api.Position) set.Set {
	var s set.Set
	for at, x := range p.Board {
		if sideOf(x) >= 0 {
			s = s.With(at)
		}
	}
	return s
}

// goes is P10.2 told square by square, put in order behind it.
func goes(p api.Position, onto set.Set) []api.Move {
	var list []api.Move
	for from, x := range p.Board {
		for to, y := range p.Board {
			if sideOf(x) != int(p.Side) || sideOf(y) == int(p.Side) || y%white == api.King || !onto.Has(to) || !ray.Of(x, from, taken(p)).Has(to) {
				continue
			}
			may, must := promotes(x, from, to)
			if may {
				list = append(list, api.Move{From: from, To: to, Promote: true})
			}
			if !must {
				list = append(list, api.Move{From: from, To: to})
			}
		}
	}
	slices.SortFunc(list, move.Compare)
	return list
}

// free is P10.3's Free told square by square.
func free(p api.Position, side, kind int) set.Set {
	var s set.Set
	for q, x := range p.Board {
		if sideOf(x) < 0 && !dead(api.Piece(kind+white*side), q) && !(kind == api.Pawn && hasPawn(p, side, q/9)) {
			s = s.With(q)
		}
	}
	return s
}

func hasPawn(p api.Position, side, file int) bool {
	for rank := range 9 {
		if p.Board[9*file+rank] == api.Piece(api.Pawn+white*side) {
			return true
		}
	}
	return false
}

// drops is P10.3's Drops told square by square, put in order behind it.
func drops(p api.Position, onto set.Set) []api.Move {
	var list []api.Move
	for q := range api.Squares {
		for kind := 1; kind < 8; kind++ {
			if p.Hands[p.Side][kind] > 0 && onto.Has(q) && free(p, int(p.Side), kind).Has(q) {
				list = append(list, api.Move{To: q, Drop: kind})
			}
		}
	}
	slices.SortFunc(list, move.Compare)
	return list
}

// put is a position with pieces on squares.
func put(pieces map[int]api.Piece) api.Position {
	var p api.Position
	for q, x := range pieces {
		p.Board[q] = x
	}
	return p
}

// raw is a position of any numbers.
func raw(d *dice) api.Position {
	var p api.Position
	full := 1 + d.below(10)
	for q := range p.Board {
		if d.below(10) < full {
			p.Board[q] = api.Piece(d.below(34))
		}
		if d.below(20) == 0 {
			p.Board[q] = api.Piece(d.below(256))
		}
	}
	for side := range p.Hands {
		for kind := range p.Hands[side] {
			p.Hands[side][kind] = int8(d.below(256))
		}
	}
	p.Side = int8(d.below(256))
	return p
}

// proper is a position that passes layer 5's Check, with few pieces or many, on the board and in hand.
func proper(d *dice) api.Position {
	const kinds = "\x01\x01\x01\x02\x03\x04\x05\x06\x07\x09\x0a\x0b\x0c\x0e\x0f"
	var p api.Position
	p.Side = int8(d.below(2))
	black := d.below(api.Squares)
	p.Board[black] = api.King
	p.Board[(black+1+d.below(api.Squares-1))%api.Squares] = api.King + white
	for range d.below(50) {
		next := p
		q := d.below(api.Squares)
		if p.Board[q] == 0 {
			next.Board[q] = api.Piece(kinds[d.below(len(kinds))]) + api.Piece(white*d.below(2))
		}
		if d.below(4) == 0 {
			next = p
			next.Hands[d.below(2)][1+d.below(7)]++
		}
		if board.Check(next) == api.OK {
			p = next
		}
	}
	return p
}

// somewhere are sets of squares to go to: of none, of one, of all, of those that are taken, and of any.
func somewhere(d *dice, p api.Position) []set.Set {
	var s set.Set
	for range d.below(60) {
		s = s.With(d.below(api.Squares))
	}
	return []set.Set{{}, set.Of(d.below(api.Squares)), set.All(), taken(p), taken(p).Not(), s, s.Not()}
}

func TestPromotes(t *testing.T) { // P10.1: every number of a piece, and every square, also what is none
	squares := slices.Clone(wrong)
	for q := range api.Squares {
		squares = append(squares, q)
	}
	for n := -128; n < 128; n++ {
		x := api.Piece(n)
		for _, from := range squares {
			for _, to := range squares {
				may, must := gen.Promotes(x, from, to)
				wantMay, wantMust := promotes(x, from, to)
				if may != wantMay || must != wantMust {
					t.Fatalf("Promotes(%d, %d, %d): %v %v, want %v %v", x, from, to, may, must, wantMay, wantMust)
				}
			}
		}
	}
}

func TestPromotesByHand(t *testing.T) { // P10.1: where it is left, where it is reached, neither; must it
	rows := []struct {
		x         api.Piece
		from, to  int
		may, must bool
	}{
		{api.Pawn, 11, 10, true, false},
		{api.Pawn, 12, 11, true, false},
		{api.Pawn, 13, 12, false, false},
		{api.Pawn, 10, 9, true, true},
		{api.Silver, 11, 21, true, false},
		{api.Silver, 12, 20, true, false},
		{api.Silver, 12, 22, false, false},
		{api.Silver, 1, 0, true, false},
		{api.Lance, 8, 1, true, false},
		{api.Lance, 8, 0, true, true},
		{api.Lance, 8, 3, false, false},
		{api.Knight, 13, 20, true, false},
		{api.Knight, 12, 19, true, true},
		{api.Knight, 11, 18, true, true},
		{api.Knight, 14, 21, false, false},
		{api.Bishop, 0, 80, true, false},
		{api.Rook, 8, 0, true, false},
		{api.Rook, 8, 3, false, false},
		{api.Gold, 1, 0, false, false},
		{api.King, 1, 0, false, false},
		{api.Pawn + 8, 1, 0, false, false},
		{api.Lance + 8, 1, 0, false, false},
		{api.Knight + 8, 11, 18, false, false},
		{api.Rook + 8, 1, 0, false, false},
		{13, 1, 0, false, false},
		{0, 1, 0, false, false},
		{16, 1, 0, false, false},
		{api.Piece(-1), 1, 0, false, false},
	}
	for _, r := range rows {
		if may, must := gen.Promotes(r.x, r.from, r.to); may != r.may || must != r.must {
			t.Errorf("%d from %d to %d: %v %v", r.x, r.from, r.to, may, must)
		}
		if may, must := gen.Promotes(r.x+white, 80-r.from, 80-r.to); r.x > 0 && r.x < white && (may != r.may || must != r.must) {
			t.Errorf("White's %d from %d to %d: %v %v", r.x, 80-r.from, 80-r.to, may, must)
		}
	}
	if may, must := gen.Promotes(api.Pawn+white, 1, 0); may || must {
		t.Error("White's pawn, in Black's zone")
	}
	if may, must := gen.Promotes(api.Pawn, 79, 80); may || must {
		t.Error("Black's pawn, in White's zone")
	}
}

func TestBoard(t *testing.T) { // P10.2: any positions that pass layer 5's Check, in check or not
	d := dice(1)
	promoting, must, all := 0, 0, 0
	for range 2000 {
		p := proper(&d)
		b := board.New(p)
		for _, onto := range somewhere(&d, p) {
			got, want := gen.Board(b, onto), goes(p, onto)
			if !slices.Equal(got, want) {
				t.Fatalf("Board(%v, %v): %v, want %v", p, onto.Squares(), got, want)
			}
			for _, m := range got {
				if m.Promote {
					promoting++
				}
				if _, has := promotes(p.Board[m.From], m.From, m.To); has {
					must++
				}
			}
			all += len(got)
		}
	}
	if promoting < 10000 || must < 1000 || all < 3*promoting {
		t.Errorf("%d moves, %d promote, %d must", all, promoting, must)
	}
}

// moves are moves on the board of Black's piece on 40 or 12, and of White's seen from its side.
var moves = []struct {
	name   string
	pieces map[int]api.Piece
	onto   set.Set
	want   []api.Move
}{
	{"a gold, in every way but back aside", map[int]api.Piece{40: api.Gold}, set.All(), []api.Move{{From: 40, To: 30}, {From: 40, To: 31}, {From: 40, To: 39}, {From: 40, To: 41}, {From: 40, To: 48}, {From: 40, To: 49}}},
	{"onto nothing", map[int]api.Piece{40: api.Gold}, set.Set{}, nil},
	{"onto one", map[int]api.Piece{40: api.Gold}, set.Of(31), []api.Move{{From: 40, To: 31}}},
	{"onto one to which it doesn't go", map[int]api.Piece{40: api.Gold}, set.Of(32), nil},
	{"onto its own", map[int]api.Piece{40: api.Gold, 39: api.Pawn}, set.Of(39), nil},
	{"onto the other side's", map[int]api.Piece{40: api.Gold, 39: api.Pawn + white}, set.Of(39), []api.Move{{From: 40, To: 39}}},
	{"onto the other side's king", map[int]api.Piece{40: api.Gold, 39: api.King + white}, set.Of(39), nil},
	{"onto its own king", map[int]api.Piece{40: api.Gold, 39: api.King}, set.Of(39), nil},
	{"a lance up to its own", map[int]api.Piece{40: api.Lance, 37: api.Pawn}, set.All().Without(36), []api.Move{{From: 40, To: 38}, {From: 40, To: 38, Promote: true}, {From: 40, To: 39}}},
	{"a lance onto the other side's, which it must take promoting", map[int]api.Piece{40: api.Lance, 36: api.Gold + white}, set.Of(36, 37), []api.Move{{From: 40, To: 36, Promote: true}, {From: 40, To: 37}, {From: 40, To: 37, Promote: true}}},
	{"a lance up to a king", map[int]api.Piece{40: api.Lance, 39: api.King + white}, set.Of(36, 37, 38, 39), nil},
	{"a pawn that may", map[int]api.Piece{12: api.Pawn}, set.All(), []api.Move{{From: 12, To: 11}, {From: 12, To: 11, Promote: true}}},
	{"a knight that must", map[int]api.Piece{12: api.Knight}, set.All(), []api.Move{{From: 12, To: 1, Promote: true}, {From: 12, To: 19, Promote: true}}},
	{"a silver that leaves the zone", map[int]api.Piece{11: api.Silver}, set.Of(3, 21), []api.Move{{From: 11, To: 3}, {From: 11, To: 3, Promote: true}, {From: 11, To: 21}, {From: 11, To: 21, Promote: true}}},
	{"a silver outside", map[int]api.Piece{12: api.Silver}, set.Of(4, 22), []api.Move{{From: 12, To: 4}, {From: 12, To: 22}}},
	{"a promoted pawn", map[int]api.Piece{11: api.Pawn + 8}, set.Of(10, 19), []api.Move{{From: 11, To: 10}, {From: 11, To: 19}}},
	{"two pieces onto one square", map[int]api.Piece{40: api.Gold, 22: api.Rook}, set.Of(31), []api.Move{{From: 22, To: 31}, {From: 40, To: 31}}},
	{"the other side's pieces stay", map[int]api.Piece{40: api.Gold + white}, set.All().Without(79).Without(71).Without(70), nil},
}

// turned is a position seen from the other side.
func turned(p api.Position) api.Position {
	other := api.Position{Hands: [2][8]int8{p.Hands[1], p.Hands[0]}, Side: 1 - p.Side}
	for q, x := range p.Board {
		if side := sideOf(x); side >= 0 {
			other.Board[80-q] = x%white + api.Piece(white*(1-side))
		}
	}
	return other
}

// across is moves seen from the other side.
func across(list []api.Move) []api.Move {
	var other []api.Move
	for _, m := range list {
		m.To = 80 - m.To
		if m.Drop == 0 {
			m.From = 80 - m.From
		}
		other = append(other, m)
	}
	slices.SortFunc(other, move.Compare)
	return other
}

// acrossSet is squares seen from the other side.
func acrossSet(s set.Set) set.Set {
	var other set.Set
	for _, q := range s.Squares() {
		other = other.With(80 - q)
	}
	return other
}

// withKings has both kings, where there is none yet, with Black's on 80, and White's on 0.
func withKings(p api.Position) api.Position {
	for q, king := range map[int]api.Piece{80: api.King, 0: api.King + white} {
		if !slices.Contains(p.Board[:], king) {
			p.Board[q] = king
		}
	}
	return p
}

func TestBoardByHand(t *testing.T) { // P10.2: for both sides
	for _, r := range moves {
		p := withKings(put(r.pieces))
		if e := board.Check(p); e != api.OK {
			t.Errorf("%s: the position is no good: %v", r.name, e)
		}
		// Where Black's king goes from 80 isn't told in the rows.
		onto := r.onto
		if p.Board[80] == api.King {
			onto = onto.Minus(set.Of(70, 71, 79))
		}
		if got := gen.Board(board.New(p), onto); !slices.Equal(got, r.want) {
			t.Errorf("%s: %v, want %v", r.name, got, r.want)
		}
		if got := gen.Board(board.New(turned(p)), acrossSet(onto)); !slices.Equal(got, across(r.want)) {
			t.Errorf("%s, White's: %v, want %v", r.name, got, across(r.want))
		}
	}
}

func TestWhoeverIsInCheck(t *testing.T) { // P10.2: a pinned piece, and a king that goes into check
	p := put(map[int]api.Piece{44: api.King, 43: api.Gold, 36: api.Rook + white, 0: api.King + white})
	want := []api.Move{{From: 43, To: 33}, {From: 43, To: 34}, {From: 43, To: 42}, {From: 43, To: 51}, {From: 43, To: 52}, {From: 44, To: 34}, {From: 44, To: 35}, {From: 44, To: 52}, {From: 44, To: 53}}
	if got := gen.Board(board.New(p), set.All()); !slices.Equal(got, want) {
		t.Errorf("%v, want %v", got, want)
	}
}

func TestFree(t *testing.T) { // P10.3: of any position
	d := dice(2)
	for n := range 4000 {
		p := proper(&d)
		if n%2 == 0 {
			p = raw(&d)
		}
		b := board.New(p)
		for side := range 2 {
			for kind := 1; kind < 8; kind++ {
				if got, want := gen.Free(b, side, kind), free(p, side, kind); got != want {
					t.Fatalf("Free(%v, %d, %d): %v, want %v", p.Board, side, kind, got.Squares(), want.Squares())
				}
			}
			for _, kind := range wrongKinds {
				if got := gen.Free(b, side, kind); !got.Empty() {
					t.Fatalf("Free(%d, %d): %v", side, kind, got.Squares())
				}
			}
		}
		for _, side := range wrongSides {
			for kind := range 17 {
				if got := gen.Free(b, side, kind); !got.Empty() {
					t.Fatalf("Free(%d, %d): %v", side, kind, got.Squares())
				}
			}
		}
	}
}

func TestFreeByHand(t *testing.T) { // P10.3: files with a pawn, with a promoted one alone, with the other side's alone; whoever's turn it is, whatever is in hand
	p := put(map[int]api.Piece{4: api.Pawn, 13: api.Pawn + 8, 22: api.Pawn + white, 31: api.Pawn, 33: api.Pawn + white, 40: api.Pawn + 8 + white, 49: 13})
	all := set.All().Minus(set.Of(4, 13, 22, 31, 33, 40))
	first, second := set.InRank(0), set.InRank(1)
	last, lastBut := set.InRank(8), set.InRank(7)
	rows := []struct {
		side, kind int
		want       set.Set
	}{
		{0, api.Pawn, all.Minus(first).Minus(set.InFile(0)).Minus(set.InFile(3))},
		{1, api.Pawn, all.Minus(last).Minus(set.InFile(2)).Minus(set.InFile(3))},
		{0, api.Lance, all.Minus(first)},
		{1, api.Lance, all.Minus(last)},
		{0, api.Knight, all.Minus(first).Minus(second)},
		{1, api.Knight, all.Minus(last).Minus(lastBut)},
		{0, api.Silver, all},
		{1, api.Silver, all},
		{0, api.Gold, all},
		{1, api.Bishop, all},
		{0, api.Rook, all},
		{1, api.Rook, all},
		{0, api.King, set.Set{}},
		{0, 0, set.Set{}},
		{0, api.Pawn + 8, set.Set{}},
		{1, api.Rook + 8, set.Set{}},
		{0, api.Gold + 8, set.Set{}},
		{2, api.Gold, set.Set{}},
		{-1, api.Gold, set.Set{}},
	}
	for _, r := range rows {
		for side := range int8(2) {
			p.Side = side
			if got := gen.Free(board.New(p), r.side, r.kind); got != r.want {
				t.Errorf("Free(%d, %d): %v, want %v", r.side, r.kind, got.Squares(), r.want.Squares())
			}
		}
	}
	if got := gen.Free(board.New(api.Position{}), 0, api.Gold); got != set.All() {
		t.Errorf("of nothing: %v", got.Squares())
	}
}

func TestDrops(t *testing.T) { // P10.3
	d := dice(3)
	all := 0
	for range 2000 {
		p := proper(&d)
		b := board.New(p)
		for _, onto := range somewhere(&d, p) {
			got, want := gen.Drops(b, onto), drops(p, onto)
			if !slices.Equal(got, want) {
				t.Fatalf("Drops(%v, %v): %v, want %v", p, onto.Squares(), got, want)
			}
			all += len(got)
		}
	}
	if all < 100000 {
		t.Errorf("%d drops only", all)
	}
}

func TestDropsByHand(t *testing.T) { // P10.3: for both sides
	p := put(map[int]api.Piece{44: api.King, 36: api.King + white, 13: api.Pawn})
	p.Hands[0] = [8]int8{0, 3, 1, 1, 0, 0, 0, 1}
	p.Hands[1] = [8]int8{0, 0, 0, 0, 2, 1, 1, 1}
	onto := set.Of(9, 12, 0, 1, 2, 44, 36, 13)
	want := []api.Move{{To: 1, Drop: 1}, {To: 2, Drop: 1}, {To: 1, Drop: 2}, {To: 2, Drop: 2}, {To: 12, Drop: 2}, {To: 2, Drop: 3}, {To: 12, Drop: 3}, {To: 0, Drop: 7}, {To: 1, Drop: 7}, {To: 2, Drop: 7}, {To: 9, Drop: 7}, {To: 12, Drop: 7}}
	if got := gen.Drops(board.New(p), onto); !slices.Equal(got, want) {
		t.Errorf("%v, want %v", got, want)
	}
	if got := gen.Drops(board.New(turned(p)), acrossSet(onto)); !slices.Equal(got, across(want)) {
		t.Errorf("White's: %v, want %v", got, across(want))
	}
	if got := gen.Drops(board.New(p), set.Set{}); len(got) > 0 {
		t.Errorf("onto nothing: %v", got)
	}
	if got := gen.Drops(board.New(board.Start()), set.All()); len(got) > 0 {
		t.Errorf("nothing in hand: %v", got)
	}
	if got := gen.Drops(board.New(p), set.Of(2)); !slices.Equal(got, []api.Move{{To: 2, Drop: 1}, {To: 2, Drop: 2}, {To: 2, Drop: 3}, {To: 2, Drop: 7}}) {
		t.Errorf("onto one: %v", got)
	}
}

func TestAll(t *testing.T) { // P10.3: on the board, and behind them drops
	d := dice(4)
	both := 0
	for range 2000 {
		p := proper(&d)
		b := board.New(p)
		got := gen.All(b)
		if want := append(goes(p, set.All()), drops(p, set.All())...); !slices.Equal(got, want) {
			t.Fatalf("All(%v): %v, want %v", p, got, want)
		}
		if !slices.IsSortedFunc(got, move.Compare) {
			t.Fatalf("not in their order: %v", got)
		}
		if len(got) > 0 && got[0].Drop == 0 && got[len(got)-1].Drop != 0 {
			both++
		}
	}
	if both < 500 {
		t.Errorf("both parts %d times only", both)
	}
}

func TestTheExample(t *testing.T) { // P10.2, P10.3: the chapter's
	list := gen.All(board.New(board.Start()))
	if len(list) != 30 || list[0] != (api.Move{From: 6, To: 5}) {
		t.Errorf("%d moves: %v", len(list), list)
	}
}

func TestNoCallPanics(t *testing.T) { // P1: also on raw boards, and onto bits that are no squares, of which nothing else is promised
	d := dice(5)
	words := []uint64{0, 1, 1 << 18, 1 << 62, 1 << 63, math.MaxUint64}
	for range 1000 {
		p := raw(&d)
		if d.below(2) == 0 {
			p.Side = int8(d.below(2))
		}
		b := board.New(p)
		for _, lo := range words {
			for _, hi := range words {
				gen.Board(b, set.Set{Lo: lo, Hi: hi})
				gen.Drops(b, set.Set{Lo: lo, Hi: hi})
			}
		}
		gen.All(b)
	}
}

func TestBoardsStayAsTheyAre(t *testing.T) { // P2
	d := dice(6)
	for n := range 400 {
		p := proper(&d)
		if n%2 == 0 {
			p = raw(&d)
		}
		b := board.New(p)
		before := *b.Clone()
		for _, onto := range somewhere(&d, p) {
			gen.Board(b, onto)
			gen.Drops(b, onto)
		}
		gen.All(b)
		for kind := range 17 {
			gen.Free(b, d.below(2), kind)
		}
		if *b != before {
			t.Fatal("what is asked has changed the board")
		}
	}
}

// spoil writes over a list, and over its spare room.
func spoil(list []api.Move) {
	list = list[:cap(list)]
	for i := range list {
		list[i] = api.Move{From: -1, To: -1, Drop: -1, Promote: true}
	}
}

func TestListsAreNewMemory(t *testing.T) { // P2: what is done to one answer is told by no other
	p := put(map[int]api.Piece{44: api.King, 36: api.King + white, 13: api.Pawn, 20: api.Rook})
	p.Hands[0] = [8]int8{0, 3, 1, 1, 0, 0, 0, 1}
	b := board.New(p)
	asks := []func() []api.Move{
		func() []api.Move { return gen.Board(b, set.All()) },
		func() []api.Move { return gen.Drops(b, set.All()) },
		func() []api.Move { return gen.All(b) },
	}
	var lists, wants [][]api.Move
	for _, ask := range asks {
		for range 2 {
			lists = append(lists, ask())
			wants = append(wants, slices.Clone(lists[len(lists)-1]))
		}
	}
	for i, list := range lists {
		spoil(list)
		for j := i + 1; j < len(lists); j++ {
			if !slices.Equal(lists[j], wants[j]) {
				t.Errorf("%d shares with %d", j, i)
			}
		}
	}
	for i, ask := range asks {
		if got := ask(); !slices.Equal(got, wants[2*i]) {
			t.Errorf("%d is kept: %v", i, got)
		}
	}
}

func TestAnswersFollowTheBoard(t *testing.T) { // rule 4: nothing is kept of what was asked before
	p := put(map[int]api.Piece{44: api.King, 36: api.King + white, 40: api.Gold})
	p.Hands[0][api.Pawn] = 1
	b := board.New(p)
	check := func(name string) {
		t.Helper()
		want := append(goes(b.Position, set.All()), drops(b.Position, set.All())...)
		if got := gen.All(b); !slices.Equal(got, want) {
			t.Errorf("%s: %v, want %v", name, got, want)
		}
	}
	check("ahead")
	b.Put(41, api.Pawn)
	check("a pawn more")
	b.Side = api.White
	check("White's turn")
	b.Hands[1][api.Knight] = 1
	check("a knight in hand")
}
