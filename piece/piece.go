// Package piece has the pieces: their sides, their kinds, and their names.
package piece

import "kakugyo/api"

// white is how much more than its kind a piece of White's is.
const white = 16

// The letters of the kinds in hand, in their order.
const (
	blackLetters = "PLNSGBRK"
	whiteLetters = "plnsgbrk"
)

// signs has a blank in the place of the kind that there isn't, so that the places of the others are their kinds.
const signs = "歩香桂銀金角飛玉と杏圭全 馬龍"

// The second signs, which records use too.
const (
	otherKing   = '王'
	otherDragon = '竜'
)

// Kind: the kind of a piece; 0: it is none.
func Kind(p api.Piece) int {
	_, kind := split(p)
	return kind
}

// Of: the piece of a side and a kind; 0: there is none.
func Of(side, kind int) api.Piece {
	if Raw(kind) == 0 {
		return 0
	}
	switch side {
	case api.Black:
		return api.Piece(kind)
	case api.White:
		return api.Piece(white + kind)
	default:
		return 0
	}
}

// Side: the side of a piece; -1: it is none.
func Side(p api.Piece) int {
	side, _ := split(p)
	return side
}

// split answers both at once, as neither can be told without knowing that p is a piece at all.
func split(p api.Piece) (int, int) {
	side, kind := api.Black, int(p)
	if kind >= white {
		side, kind = api.White, kind-white
	}
	if Raw(kind) == 0 {
		return -1, 0
	}
	return side, kind
}

// Raw: the kind that a kind is in hand; 0: it is none.
func Raw(kind int) int {
	if kind >= api.Pawn && kind <= api.King {
		return kind
	}
	raw := kind - api.Promoted
	if Up(raw) == 0 {
		return 0
	}
	return raw
}

// Up: the promoted kind of a kind; 0: it has none.
func Up(kind int) int {
	switch kind {
	case api.Pawn, api.Lance, api.Knight, api.Silver, api.Bishop, api.Rook:
		return kind + api.Promoted
	default:
		return 0
	}
}

// Total: how many pieces of a kind in hand there are in all.
func Total(kind int) int {
	switch kind {
	case api.Pawn:
		return 18
	case api.Lance, api.Knight, api.Silver, api.Gold:
		return 4
	case api.Bishop, api.Rook, api.King:
		return 2
	default:
		return 0
	}
}

// Name: a piece's name: its letter, a small one, if it is White's, with a plus ahead of it, if it is promoted; empty: it is none.
func Name(p api.Piece) string {
	side, kind := split(p)
	if kind == 0 {
		return ""
	}
	raw := Raw(kind)
	letter := string(at(letters(side), raw))
	if raw == kind {
		return letter
	}
	return "+" + letter
}

// Parse: the piece of a letter, promoted or not; 0: there is none.
func Parse(letter rune, promoted bool) api.Piece {
	for side := range 2 {
		kind := place(letters(side), letter)
		if promoted {
			kind = Up(kind)
		}
		if kind != 0 {
			return Of(side, kind)
		}
	}
	return 0
}

func letters(side int) string {
	if side == api.White {
		return whiteLetters
	}
	return blackLetters
}

// Sign: the sign of a kind, as records have it; 0: there is none.
func Sign(kind int) rune {
	if Raw(kind) == 0 {
		return 0
	}
	return at(signs, kind)
}

// FromSign: the kind of a sign; 0: there is none.
func FromSign(x rune) int {
	switch x {
	case otherKing:
		return api.King
	case otherDragon:
		return api.Rook + api.Promoted
	}
	kind := place(signs, x)
	if Raw(kind) == 0 {
		return 0
	}
	return kind
}

// at counts runes from 1 on, as kinds are; 0: so many aren't there.
func at(text string, n int) rune {
	for _, x := range text {
		n--
		if n == 0 {
			return x
		}
	}
	return 0
}

// place is the other way about of at; 0: the rune isn't there.
func place(text string, x rune) int {
	n := 0
	for _, y := range text {
		n++
		if y == x {
			return n
		}
	}
	return 0
}
