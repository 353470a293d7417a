package motif

import (
	"cmp"
	"slices"
)

const (
	lastSymbol rune = 0x10ffff
	gapBelow   rune = 0xd7ff // the numbers between these two are no symbols
	gapAbove   rune = 0xe000
)

// set is a set of symbols: the first and the last of each of its pieces, the
// lowest piece ahead. No two pieces are neighbours, so sets with the same
// symbols are the same text, and may stand in the key of a map.
type set string

const (
	noSymbols    set = ""
	everySymbol  set = "\x00\U0010ffff"
	digitSymbols set = "09"
	wordSymbols  set = "09AZ__az"
)

type piece struct {
	low, high rune
}

// above tells the number above a symbol: the next symbol, but for the last.
func above(symbol rune) rune {
	if symbol == gapBelow {
		return gapAbove
	}
	return symbol + 1
}

func below(symbol rune) rune {
	if symbol == gapAbove {
		return gapBelow
	}
	return symbol - 1
}

// setOf makes a set of pieces that may stand in any order and overlap.
func setOf(pieces []piece) set {
	sorted := slices.SortedFunc(slices.Values(pieces), func(a, b piece) int { return cmp.Compare(a.low, b.low) })
	var ends []rune
	for _, p := range sorted {
		last := len(ends) - 1
		if last > 0 && p.low <= above(ends[last]) {
			ends[last] = max(ends[last], p.high)
			continue
		}
		ends = append(ends, p.low, p.high)
	}
	return set(ends)
}

func (s set) pieces() []piece {
	ends := []rune(s)
	var pieces []piece
	for i := 0; i < len(ends); i += 2 {
		pieces = append(pieces, piece{ends[i], ends[i+1]})
	}
	return pieces
}

func (s set) has(symbol rune) bool {
	for _, p := range s.pieces() {
		if p.low <= symbol && symbol <= p.high {
			return true
		}
	}
	return false
}

// others are the symbols that a set does not have.
func (s set) others() set {
	var gaps []piece
	low := rune(0)
	for _, p := range s.pieces() {
		if low < p.low {
			gaps = append(gaps, piece{low, below(p.low)})
		}
		low = above(p.high)
	}
	if low <= lastSymbol {
		gaps = append(gaps, piece{low, lastSymbol})
	}
	return setOf(gaps)
}

func union(a, b set) set {
	return setOf(append(a.pieces(), b.pieces()...))
}

func shared(a, b set) set {
	return union(a.others(), b.others()).others()
}

// borders are the symbols from which on a set has its symbols or has not: the
// first of each of its pieces and of the gaps between them.
func (s set) borders() []rune {
	var lows []rune
	for _, p := range append(s.pieces(), s.others().pieces()...) {
		lows = append(lows, p.low)
	}
	slices.Sort(lows)
	return lows
}
