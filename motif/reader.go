package motif

import (
	"strings"
	"unicode/utf8"
)

const (
	end       rune = -1 // looked at where the text has no more symbols
	marks          = `|&~*+?{}[]().\`
	escapable      = marks + "^-n"
	decimal        = "0123456789"
	hex            = decimal + "abcdef"
	maxDigits      = 6 // of \u{
)

const endless = -1 // times, of a repeat without a greatest number

type shape int

const (
	aSingle shape = iota // one symbol of a set
	aChoice
	aBoth
	aRow
	aNot
	aRepeat
)

// node is a part of a pattern that has been read. No term is made ahead of the
// whole size: a pattern that is too big could make no end of them.
type node struct {
	shape shape
	parts []node
	set   set // of a single
	times     // of a repeat
	size  int
}

// times is how often a part is repeated, and by what this multiplies its size.
type times struct {
	least, most int
	factor      int
}

// reader goes through a pattern from the left. Each of its methods that reads
// a part of a pattern steps over it, or gives up at the first symbol that
// cannot stand there.
type reader struct {
	text  string
	place int // in bytes, of the next symbol
	depth int // groups that are open
}

// readPattern reads a pattern, or gives up by a panic with a giveUp.
func readPattern(pattern string) node {
	r := &reader{text: pattern}
	whole := r.choice()
	r.take(end)
	return whole
}

func (r *reader) refuse(err Errno) {
	panic(giveUp{err, r.place})
}

// look tells the next symbol. (A byte where no encoding begins is decoded as
// the symbol fffd, one byte wide, just as the document has it.)
func (r *reader) look() rune {
	if r.place == len(r.text) {
		return end
	}
	symbol, _ := utf8.DecodeRuneInString(r.text[r.place:])
	return symbol
}

func (r *reader) step() {
	_, width := utf8.DecodeRuneInString(r.text[r.place:])
	r.place += width
}

// met steps over a symbol if it is the next one.
func (r *reader) met(symbol rune) bool {
	if r.look() != symbol {
		return false
	}
	r.step()
	return true
}

func (r *reader) take(symbol rune) {
	if !r.met(symbol) {
		r.refuse(ErrForm)
	}
}

// capped makes all sizes that are too great one: so no product overflows.
func capped(size int) int {
	return min(size, maxSize+1)
}

func (r *reader) choice() node {
	return joined(aChoice, r.parted('|', r.both))
}

func (r *reader) both() node {
	return joined(aBoth, r.parted('&', r.row))
}

func (r *reader) parted(mark rune, read func() node) []node {
	parts := []node{read()}
	for r.met(mark) {
		parts = append(parts, read())
	}
	return parts
}

func (r *reader) row() node {
	var items []node
	for !r.atRowEnd() {
		items = append(items, r.item())
	}
	if len(items) == 0 {
		return node{shape: aRow, size: 1}
	}
	return joined(aRow, items)
}

func joined(s shape, parts []node) node {
	size := len(parts) - 1
	for _, part := range parts {
		size = capped(size + part.size)
	}
	return node{shape: s, parts: parts, size: size}
}

func (r *reader) atRowEnd() bool {
	switch r.look() {
	case '|', '&', ')', end:
		return true
	}
	return false
}

func (r *reader) item() node {
	nots := 0
	for r.met('~') {
		nots++
	}
	n := r.atom()
	for strings.ContainsRune("*+?{", r.look()) {
		often := r.repeat()
		n = node{shape: aRepeat, parts: []node{n}, times: often, size: capped(n.size * often.factor)}
	}
	for range nots {
		n = node{shape: aNot, parts: []node{n}, size: capped(n.size + 1)}
	}
	return n
}

func (r *reader) repeat() times {
	switch {
	case r.met('*'):
		return times{0, endless, 2}
	case r.met('+'):
		return times{1, endless, 2}
	case r.met('?'):
		return times{0, 1, 2}
	}
	r.take('{')
	return r.bounds()
}

func (r *reader) bounds() times {
	least := r.number(0)
	most := least
	if r.met(',') {
		if r.met('}') {
			return times{least, endless, least + 1}
		}
		most = r.number(least)
	}
	r.take('}')
	return times{least, most, max(most, 1)}
}

func (r *reader) number(least int) int {
	n, ok := r.digit(decimal)
	if !ok {
		r.refuse(ErrForm)
	}
	if n > 0 {
		if second, ok := r.digit(decimal); ok {
			n = 10*n + second
		}
	}
	if n < least || n > maxRepeat {
		r.refuse(ErrRange)
	}
	return n
}

// digit steps over one of the digits, if one is next, and tells its value.
func (r *reader) digit(digits string) (int, bool) {
	value := strings.IndexRune(digits, r.look())
	if value < 0 {
		return 0, false
	}
	r.step()
	return value, true
}

func (r *reader) atom() node {
	if r.look() == '(' {
		return r.group()
	}
	return node{shape: aSingle, set: r.single(), size: 1}
}

func (r *reader) group() node {
	if r.depth == maxDepth {
		r.refuse(ErrDeep)
	}
	r.take('(')
	r.depth++
	within := r.choice()
	r.depth--
	r.take(')')
	return within
}

// single reads an atom whose words are of one symbol, and tells which.
func (r *reader) single() set {
	if r.look() == '[' {
		return r.class()
	}
	if r.met('.') {
		return everySymbol
	}
	if symbols, met := r.several(); met {
		return symbols
	}
	symbol := r.symbol()
	return setOf([]piece{{symbol, symbol}})
}

func (r *reader) symbol() rune {
	symbol := r.look()
	if symbol == '\\' {
		return r.escape()
	}
	if symbol == end || strings.ContainsRune(marks, symbol) {
		r.refuse(ErrForm)
	}
	r.step()
	return symbol
}

// several steps over one of the escapes that stand for several symbols: they
// are kept apart from escape because they can be no limit of a class.
func (r *reader) several() (set, bool) {
	rest := r.text[r.place:]
	switch {
	case strings.HasPrefix(rest, `\d`):
		r.place += 2
		return digitSymbols, true
	case strings.HasPrefix(rest, `\w`):
		r.place += 2
		return wordSymbols, true
	}
	return noSymbols, false
}

// escape tells the symbol for which an escape stands.
func (r *reader) escape() rune {
	r.take('\\')
	if r.met('u') {
		return r.numbered()
	}
	symbol := r.look()
	if !strings.ContainsRune(escapable, symbol) {
		r.refuse(ErrForm)
	}
	r.step()
	if symbol == 'n' {
		return '\n'
	}
	return symbol
}

// numbered reads what stands behind \u.
func (r *reader) numbered() rune {
	r.take('{')
	symbol, count := rune(0), 0
	for count < maxDigits {
		value, ok := r.digit(hex)
		if !ok {
			break
		}
		symbol = 16*symbol + rune(value)
		count++
	}
	if count == 0 || r.look() != '}' {
		r.refuse(ErrForm)
	}
	if !utf8.ValidRune(symbol) {
		r.refuse(ErrRange)
	}
	r.step()
	return symbol
}

func (r *reader) class() set {
	r.take('[')
	turned := r.met('^')
	var pieces []piece
	for !r.met(']') {
		pieces = append(pieces, r.part()...)
	}
	if turned {
		return setOf(pieces).others()
	}
	return setOf(pieces)
}

func (r *reader) part() []piece {
	if symbols, met := r.several(); met {
		return symbols.pieces()
	}
	first := r.limit()
	if !r.met('-') {
		return []piece{{first, first}}
	}
	last := r.limit()
	if last < first {
		r.refuse(ErrRange)
	}
	return []piece{{first, last}}
}

func (r *reader) limit() rune {
	symbol := r.look()
	switch symbol {
	case '\\':
		return r.escape()
	case ']', '-', end:
		r.refuse(ErrForm)
	}
	r.step()
	return symbol
}
