// Package set has sets of squares, as bits of two words.
package set

import (
	"math/bits"

	"kakugyo/api"
)

// Low is how many squares the lower word has.
const Low = 63

// lines is how many files there are, and how many ranks.
const lines = 9

// Set is a set of squares: the bit n of Lo is the square n, that of Hi the square n and 63.
type Set struct{ Lo, Hi uint64 }

// All: all squares.
func All() Set { return Set{Lo: 1<<Low - 1, Hi: 1<<(api.Squares-Low) - 1} }

// Of: some squares; what is no square isn't one.
func Of(squares ...int) Set {
	var s Set
	for _, q := range squares {
		s = s.With(q)
	}
	return s
}

// single is empty for what is no square, so that its callers needn't ask.
func single(q int) Set {
	switch {
	case q < 0 || q >= api.Squares:
		return Set{}
	case q < Low:
		return Set{Lo: 1 << q}
	default:
		return Set{Hi: 1 << (q - Low)}
	}
}

// With, Without: the set with a square, and without it.
func (s Set) With(q int) Set { return s.Or(single(q)) }

func (s Set) Without(q int) Set { return s.Minus(single(q)) }

// Has: is a square in the set?
func (s Set) Has(q int) bool { return !s.And(single(q)).Empty() }

// And, Or, Minus, Not: what is in both, in either, in the first alone, and in none.
func (s Set) And(t Set) Set { return Set{Lo: s.Lo & t.Lo, Hi: s.Hi & t.Hi} }

func (s Set) Or(t Set) Set { return Set{Lo: s.Lo | t.Lo, Hi: s.Hi | t.Hi} }

func (s Set) Minus(t Set) Set { return Set{Lo: s.Lo &^ t.Lo, Hi: s.Hi &^ t.Hi} }

// All less the set, as the words have bits that are no squares.
func (s Set) Not() Set { return All().Minus(s) }

// Empty: has the set no square?
func (s Set) Empty() bool { return s == Set{} }

// Count: how many squares the set has.
func (s Set) Count() int { return bits.OnesCount64(s.Lo) + bits.OnesCount64(s.Hi) }

// First: the least square of the set; -1: it has none.
func (s Set) First() int {
	switch {
	case s.Lo != 0:
		return bits.TrailingZeros64(s.Lo)
	case s.Hi != 0:
		return Low + bits.TrailingZeros64(s.Hi)
	default:
		return -1
	}
}

// Last: the greatest square of the set; -1: it has none.
func (s Set) Last() int {
	if s.Hi != 0 {
		return Low + bits.Len64(s.Hi) - 1
	}
	return bits.Len64(s.Lo) - 1
}

// Squares: the squares of the set, rising.
func (s Set) Squares() []int {
	list := make([]int, 0, s.Count())
	list = appendBits(list, s.Lo, 0)
	return appendBits(list, s.Hi, Low)
}

// It goes by the bits, not by First and Without, so that it ends whatever bits are set.
func appendBits(list []int, word uint64, first int) []int {
	for ; word != 0; word &= word - 1 {
		list = append(list, first+bits.TrailingZeros64(word))
	}
	return list
}

// File, Rank: the file of a square, and its rank, from 0 to 8.
func File(q int) int { return q / lines }

func Rank(q int) int { return q % lines }

// Square: the square of a file and a rank; -1: there is none.
func Square(file, rank int) int {
	if file < 0 || file >= lines || rank < 0 || rank >= lines {
		return -1
	}
	return file*lines + rank
}

// InFile, InRank: all squares of a file, and of a rank.
func InFile(file int) Set {
	var s Set
	for rank := range lines {
		s = s.With(Square(file, rank))
	}
	return s
}

func InRank(rank int) Set {
	var s Set
	for file := range lines {
		s = s.With(Square(file, rank))
	}
	return s
}
