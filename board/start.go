package board

import (
	"kakugyo/api"
	"kakugyo/piece"
	"kakugyo/set"
)

// The ranks on which Black's pieces stand at the Start.
const (
	pawnRank = 6
	slidRank = 7
	homeRank = 8
)

// The files of Black's pieces that slide, at the Start.
const (
	bishopFile = 7
	rookFile   = 1
)

// home is what stands on Black's last rank at the Start, file by file.
var home = [files]int{api.Lance, api.Knight, api.Silver, api.Gold, api.King, api.Gold, api.Silver, api.Knight, api.Lance}

// Start: the position with which games begin.
func Start() api.Position {
	var p api.Position
	for file, kind := range home {
		putBoth(&p, set.Square(file, homeRank), kind)
		putBoth(&p, set.Square(file, pawnRank), api.Pawn)
	}
	putBoth(&p, set.Square(bishopFile, slidRank), api.Bishop)
	putBoth(&p, set.Square(rookFile, slidRank), api.Rook)
	return p
}

// putBoth puts a kind on a square for Black, and on the one across the middle for White.
func putBoth(p *api.Position, q, kind int) {
	p.Board[q] = piece.Of(api.Black, kind)
	p.Board[api.Squares-1-q] = piece.Of(api.White, kind)
}
