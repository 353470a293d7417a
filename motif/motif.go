// Package motif: patterns with "and" and "not", searched for and compared: see DOC.md.
package motif

// Errno is what a call answers: OK or the reason for a refusal.
type Errno int

const (
	OK        Errno = 0
	ErrLong   Errno = 1 // a pattern or text above its bound
	ErrForm   Errno = 2 // no pattern
	ErrRange  Errno = 3 // a number too great, limits the wrong way round
	ErrDeep   Errno = 4 // too many groups within one another
	ErrBig    Errno = 5 // a pattern of too great a size
	ErrArg    Errno = 6 // a budget or a place that may not be
	ErrBudget Errno = 7 // more remainders than the budget
)

const (
	maxPattern = 60 // bytes
	maxDepth   = 8
	maxRepeat  = 12
	maxSize    = 60
)

// giveUp is what the program's own panics carry.
type giveUp struct {
	err   Errno
	place int
}

// attempt is the one place where a panic is caught, and only the program's
// own kind: any other is a fault of the program and must be seen.
func attempt(work func()) (stop giveUp) {
	defer func() {
		caught := recover()
		if caught == nil {
			return
		}
		own, ok := caught.(giveUp)
		if !ok {
			panic(caught)
		}
		stop = own
	}()
	work()
	return giveUp{OK, 0}
}

// Check tells whether a text is a right pattern (P3).
func Check(pattern string) (Errno, int) {
	if len(pattern) > maxPattern {
		return ErrLong, 0
	}
	size := 0
	stop := attempt(func() { size = readPattern(pattern) })
	if stop.err == OK && size > maxSize {
		return ErrBig, 0
	}
	return stop.err, stop.place
}

// Match tells whether a text is a word of a pattern (P4).
func Match(pattern string, text string, budget int) (bool, Errno) { return false, OK }

// Find finds the first and longest stretch (P5).
func Find(pattern string, text string, from int, budget int) (int, int, Errno) { return 0, 0, OK }

// FindAll finds all stretches, one behind the other (P5).
func FindAll(pattern string, text string, budget int) (string, Errno) { return "", OK }

// Empty tells whether a pattern has no word (P6).
func Empty(pattern string, budget int) (bool, string, Errno) { return false, "", OK }

// Includes tells whether each word of a pattern is one of another (P6).
func Includes(pattern string, other string, budget int) (bool, string, Errno) { return false, "", OK }

// Equal tells whether two patterns have the same words (P6).
func Equal(pattern string, other string, budget int) (bool, string, Errno) { return false, "", OK }

// Minimal makes the smallest automaton (P7).
func Minimal(pattern string, budget int) (string, Errno) { return "", OK }
