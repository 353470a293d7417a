package motif

import (
	"strings"
	"unicode/utf8"
)

const (
	end       rune = -1 // looked at where the text has no more symbols
	marks          = `|&~*+?{}[]().\`
	escapable      = marks + "^-n"
	decimal        = "0123456789"
	hex            = decimal + "abcdef"
	maxDigits      = 6 // of \u{
)

// reader goes through a pattern from the left. Each of its methods that reads
// a part of a pattern steps over it, or gives up at the first symbol that
// cannot stand there. Sizes are told on the way, so no tree is kept.
type reader struct {
	text  string
	place int // in bytes, of the next symbol
	depth int // groups that are open
}

// readPattern tells a pattern's size, or gives up by a panic with a giveUp.
func readPattern(pattern string) int {
	r := &reader{text: pattern}
	size := r.choice()
	r.take(end)
	return size
}

func (r *reader) refuse(err Errno) {
	panic(giveUp{err, r.place})
}

// look tells the next symbol. (A byte where no encoding begins is decoded as
// the symbol fffd, one byte wide, just as the document has it.)
func (r *reader) look() rune {
	if r.place == len(r.text) {
		return end
	}
	symbol, _ := utf8.DecodeRuneInString(r.text[r.place:])
	return symbol
}

func (r *reader) step() {
	_, width := utf8.DecodeRuneInString(r.text[r.place:])
	r.place += width
}

// met steps over a symbol if it is the next one.
func (r *reader) met(symbol rune) bool {
	if r.look() != symbol {
		return false
	}
	r.step()
	return true
}

func (r *reader) take(symbol rune) {
	if !r.met(symbol) {
		r.refuse(ErrForm)
	}
}

// capped makes all sizes that are too great one: so no product overflows.
func capped(size int) int {
	return min(size, maxSize+1)
}

func (r *reader) choice() int {
	size := r.both()
	for r.met('|') {
		size = capped(size + 1 + r.both())
	}
	return size
}

func (r *reader) both() int {
	size := r.row()
	for r.met('&') {
		size = capped(size + 1 + r.row())
	}
	return size
}

func (r *reader) row() int {
	if r.atRowEnd() {
		return 1
	}
	size := r.item()
	for !r.atRowEnd() {
		size = capped(size + 1 + r.item())
	}
	return size
}

func (r *reader) atRowEnd() bool {
	switch r.look() {
	case '|', '&', ')', end:
		return true
	}
	return false
}

func (r *reader) item() int {
	nots := 0
	for r.met('~') {
		nots++
	}
	size := r.atom()
	for strings.ContainsRune("*+?{", r.look()) {
		size = capped(size * r.repeat())
	}
	return capped(size + nots)
}

// repeat tells by what a repeat multiplies the size.
func (r *reader) repeat() int {
	if r.met('{') {
		return r.bounds()
	}
	r.step()
	return 2
}

func (r *reader) bounds() int {
	least := r.number(0)
	most := least
	if r.met(',') {
		if r.met('}') {
			return least + 1
		}
		most = r.number(least)
	}
	r.take('}')
	return max(most, 1)
}

func (r *reader) number(least int) int {
	n, ok := r.digit(decimal)
	if !ok {
		r.refuse(ErrForm)
	}
	if n > 0 {
		if second, ok := r.digit(decimal); ok {
			n = 10*n + second
		}
	}
	if n < least || n > maxRepeat {
		r.refuse(ErrRange)
	}
	return n
}

// digit steps over one of the digits, if one is next, and tells its value.
func (r *reader) digit(digits string) (int, bool) {
	value := strings.IndexRune(digits, r.look())
	if value < 0 {
		return 0, false
	}
	r.step()
	return value, true
}

func (r *reader) atom() int {
	switch r.look() {
	case '(':
		return r.group()
	case '[':
		r.class()
	case '\\':
		if !r.metSet() {
			r.escape()
		}
	case '.':
		r.step()
	default:
		r.plain()
	}
	return 1
}

func (r *reader) plain() {
	symbol := r.look()
	if symbol == end || strings.ContainsRune(marks, symbol) {
		r.refuse(ErrForm)
	}
	r.step()
}

func (r *reader) group() int {
	if r.depth == maxDepth {
		r.refuse(ErrDeep)
	}
	r.take('(')
	r.depth++
	size := r.choice()
	r.depth--
	r.take(')')
	return size
}

// metSet steps over one of the escapes that stand for several symbols: they
// are kept apart from escape because they can be no limit of a class.
func (r *reader) metSet() bool {
	rest := r.text[r.place:]
	if strings.HasPrefix(rest, `\d`) || strings.HasPrefix(rest, `\w`) {
		r.place += 2
		return true
	}
	return false
}

// escape tells the symbol for which an escape stands.
func (r *reader) escape() rune {
	r.take('\\')
	if r.met('u') {
		return r.numbered()
	}
	symbol := r.look()
	if !strings.ContainsRune(escapable, symbol) {
		r.refuse(ErrForm)
	}
	r.step()
	if symbol == 'n' {
		return '\n'
	}
	return symbol
}

// numbered reads what stands behind \u.
func (r *reader) numbered() rune {
	r.take('{')
	symbol, count := rune(0), 0
	for count < maxDigits {
		value, ok := r.digit(hex)
		if !ok {
			break
		}
		symbol = 16*symbol + rune(value)
		count++
	}
	if count == 0 || r.look() != '}' {
		r.refuse(ErrForm)
	}
	if !utf8.ValidRune(symbol) {
		r.refuse(ErrRange)
	}
	r.step()
	return symbol
}

func (r *reader) class() {
	r.take('[')
	r.met('^')
	for !r.met(']') {
		r.part()
	}
}

func (r *reader) part() {
	if r.metSet() {
		return
	}
	first := r.limit()
	if !r.met('-') {
		return
	}
	if r.limit() < first {
		r.refuse(ErrRange)
	}
}

func (r *reader) limit() rune {
	symbol := r.look()
	switch symbol {
	case '\\':
		return r.escape()
	case ']', '-', end:
		r.refuse(ErrForm)
	}
	r.step()
	return symbol
}
