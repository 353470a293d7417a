// Package motif: patterns with "and" and "not", searched for and compared: see DOC.md.
package motif

import "slices"

// Errno is what a call answers: OK or the reason for a refusal.
type Errno int

const (
	OK        Errno = 0
	ErrLong   Errno = 1 // a pattern or text above its bound
	ErrForm   Errno = 2 // no pattern
	ErrRange  Errno = 3 // a number too great, limits the wrong way round
	ErrDeep   Errno = 4 // too many groups within one another
	ErrBig    Errno = 5 // a pattern of too great a size
	ErrArg    Errno = 6 // a budget or a place that may not be
	ErrBudget Errno = 7 // more remainders than the budget
)

const (
	maxPattern = 60 // bytes
	maxDepth   = 8
	maxRepeat  = 12
	maxSize    = 60
	maxText    = 60 // bytes
	maxBudget  = 200
)

// giveUp is what the program's own panics carry.
type giveUp struct {
	err   Errno
	place int
}

// attempt is the one place where a panic is caught, and only the program's
// own kind: any other is a fault of the program and must be seen.
func attempt(work func()) (stop giveUp) {
	defer func() {
		caught := recover()
		if caught == nil {
			return
		}
		own, ok := caught.(giveUp)
		if !ok {
			panic(caught)
		}
		stop = own
	}()
	work()
	return giveUp{OK, 0}
}

// read reads a pattern, and tells why it is refused, and where.
func read(pattern string) (node, giveUp) {
	if len(pattern) > maxPattern {
		return node{}, giveUp{ErrLong, 0}
	}
	var whole node
	stop := attempt(func() { whole = readPattern(pattern) })
	if stop.err == OK && whole.size > maxSize {
		stop = giveUp{ErrBig, 0}
	}
	return whole, stop
}

// Check tells whether a text is a right pattern (P3).
func Check(pattern string) (Errno, int) {
	_, stop := read(pattern)
	return stop.err, stop.place
}

// begin reads what all searches and comparisons are given.
func begin(pattern string, budget int) (node, Errno) {
	whole, stop := read(pattern)
	if stop.err != OK {
		return node{}, stop.err
	}
	if budget < 0 || budget > maxBudget {
		return node{}, ErrArg
	}
	return whole, OK
}

// beginText is begin for a search in a text, which must not be too long either.
func beginText(pattern string, text string, budget int) (node, Errno) {
	if len(text) > maxText {
		return node{}, ErrLong
	}
	return begin(pattern, budget)
}

// beginTwo is begin for two patterns. The other's length is looked at ahead of
// reading the first, and its errors of reading behind those of the first.
func beginTwo(pattern string, other string, budget int) (one node, two node, err Errno) {
	if len(other) > maxPattern {
		return node{}, node{}, ErrLong
	}
	one, stop := read(pattern)
	if stop.err != OK {
		return node{}, node{}, stop.err
	}
	two, err = begin(other, budget)
	return one, two, err
}

// Match tells whether a text is a word of a pattern (P4).
func Match(pattern string, text string, budget int) (bool, Errno) {
	whole, err := beginText(pattern, text, budget)
	if err != OK {
		return false, err
	}
	matched := false
	stop := attempt(func() { matched = newSearch(whole, text, budget).takesAll() })
	return matched, stop.err
}

// Find finds the first and longest stretch (P5).
func Find(pattern string, text string, from int, budget int) (int, int, Errno) {
	whole, err := beginText(pattern, text, budget)
	if err != OK {
		return 0, 0, err
	}
	at := places(text)
	index, ok := slices.BinarySearch(at, from)
	if !ok {
		return 0, 0, ErrArg
	}
	var first stretch
	found := false
	stop := attempt(func() { first, found = newSearch(whole, text, budget).first(index) })
	if stop.err != OK {
		return 0, 0, stop.err
	}
	if !found {
		return -1, -1, OK
	}
	return at[first.begin], at[first.end], OK
}

// FindAll finds all stretches, one behind the other (P5).
func FindAll(pattern string, text string, budget int) (string, Errno) {
	whole, err := beginText(pattern, text, budget)
	if err != OK {
		return "", err
	}
	answer := ""
	stop := attempt(func() { answer = written(newSearch(whole, text, budget).each(), places(text)) })
	return answer, stop.err
}

// wordless tells whether a term has no word, or else its least one.
func wordless(budget int, makeTerm func(t *table) int) (bool, string, Errno) {
	word, found := "", false
	stop := attempt(func() {
		t := newTable()
		word, found = t.leastWord(makeTerm(t), budget)
	})
	if stop.err != OK {
		return false, "", stop.err
	}
	return !found, word, OK
}

// Empty tells whether a pattern has no word (P6).
func Empty(pattern string, budget int) (bool, string, Errno) {
	whole, err := begin(pattern, budget)
	if err != OK {
		return false, "", err
	}
	return wordless(budget, func(t *table) int { return t.ofNode(whole) })
}

// Includes tells whether each word of a pattern is one of another (P6).
func Includes(pattern string, other string, budget int) (bool, string, Errno) {
	one, two, err := beginTwo(pattern, other, budget)
	if err != OK {
		return false, "", err
	}
	return wordless(budget, func(t *table) int { return t.lacking(t.ofNode(one), t.ofNode(two)) })
}

// Equal tells whether two patterns have the same words (P6).
func Equal(pattern string, other string, budget int) (bool, string, Errno) {
	one, two, err := beginTwo(pattern, other, budget)
	if err != OK {
		return false, "", err
	}
	return wordless(budget, func(t *table) int { return t.differing(t.ofNode(one), t.ofNode(two)) })
}

// Minimal makes the smallest automaton (P7).
func Minimal(pattern string, budget int) (string, Errno) {
	whole, err := begin(pattern, budget)
	if err != OK {
		return "", err
	}
	answer := ""
	stop := attempt(func() {
		t := newTable()
		answer = t.smallest(t.ofNode(whole), budget)
	})
	return answer, stop.err
}
