package board

import (
	"kakugyo/api"
	"kakugyo/piece"
	"kakugyo/set"
	"kakugyo/step"
)

// files is how many files there are.
const files = 9

// Check: can a position be, but for who is in check?
func Check(p api.Position) api.Errno {
	if !isSide(int(p.Side)) {
		return api.ErrRange
	}
	if !isKnown(p) {
		return api.ErrPiece
	}
	n := count(p)
	switch {
	case n.kings != [2]int{1, 1}:
		return api.ErrKings
	case n.tooMany():
		return api.ErrCount
	case hasDead(p):
		return api.ErrDead
	case hasNifu(New(p)):
		return api.ErrNifu
	default:
		return api.OK
	}
}

// isKnown: is all on the board and in hand something that there is?
func isKnown(p api.Position) bool {
	for _, x := range p.Board {
		if x != 0 && piece.Kind(x) == 0 {
			return false
		}
	}
	for _, hand := range p.Hands {
		for kind, n := range hand {
			if n < 0 || kind == 0 && n != 0 {
				return false
			}
		}
	}
	return true
}

// census is how many kings each side has on the board, and how many of each kind there are in all, promoted or not.
type census struct {
	kings [2]int
	kinds [api.King + 1]int
}

// count is of a position that is known.
func count(p api.Position) census {
	var n census
	for _, x := range p.Board {
		n.add(x)
	}
	for _, hand := range p.Hands {
		for kind, more := range hand {
			n.kinds[kind] += int(more)
		}
	}
	return n
}

func (n *census) add(x api.Piece) {
	switch kind := piece.Raw(piece.Kind(x)); {
	case kind == api.King:
		n.kings[piece.Side(x)]++
		// A king is one of its kind, too.
		fallthrough
	case kind != 0:
		n.kinds[kind]++
	}
}

func (n *census) tooMany() bool {
	for kind, there := range n.kinds {
		if there > piece.Total(kind) {
			return true
		}
	}
	return false
}

func hasDead(p api.Position) bool {
	for q, x := range p.Board {
		if step.Dead(x, q) {
			return true
		}
	}
	return false
}

// hasNifu: has a side two pawns in a file? Promoted ones are another kind.
func hasNifu(b *Board) bool {
	for side := range b.sides {
		pawns := b.Of(side, api.Pawn)
		for file := range files {
			if pawns.And(set.InFile(file)).Count() > 1 {
				return true
			}
		}
	}
	return false
}
