package motif

import (
	"strconv"
	"strings"
)

// search goes through a text with the terms that a pattern becomes on the way.
type search struct {
	*table
	meeting
	start   int // the pattern's term
	symbols []rune
}

func newSearch(pattern node, text string, budget int) *search {
	t := newTable()
	return &search{
		table:   t,
		meeting: newMeeting(budget),
		start:   t.ofNode(pattern),
		symbols: []rune(text),
	}
}

// takesAll tells whether all symbols of the text are a word of the pattern.
func (s *search) takesAll() bool {
	number := s.start
	s.meet(number)
	for _, symbol := range s.symbols {
		number = s.becomes(number, symbol)
		s.meet(number)
	}
	return s.terms[number].hasEmpty
}

// stretch goes from one place to another. Inside the search places are told
// in symbols, not in bytes.
type stretch struct {
	begin, end int
}

// longest tells the greatest end of the stretches that begin at a place.
func (s *search) longest(begin int) (end int, found bool) {
	number := s.start
	for place := begin; ; place++ {
		s.meet(number)
		if s.terms[number].hasEmpty {
			end, found = place, true
		}
		if number == none || place == len(s.symbols) {
			return end, found
		}
		number = s.becomes(number, s.symbols[place])
	}
}

func (s *search) first(from int) (stretch, bool) {
	for begin := from; begin <= len(s.symbols); begin++ {
		if end, found := s.longest(begin); found {
			return stretch{begin, end}, true
		}
	}
	return stretch{}, false
}

// each tells the stretches one behind the other. Behind an empty one a symbol
// is left out, or the same one would be found again.
func (s *search) each() []stretch {
	var all []stretch
	next, found := s.first(0)
	for found {
		all = append(all, next)
		next, found = s.first(max(next.begin+1, next.end))
	}
	return all
}

// places tells where the symbols of a text begin, in bytes, and its end.
func places(text string) []int {
	var all []int
	for place := range text {
		all = append(all, place)
	}
	return append(all, len(text))
}

// written tells stretches as a text, by the places of the symbols in bytes.
func written(stretches []stretch, at []int) string {
	var pieces []string
	for _, s := range stretches {
		pieces = append(pieces, strconv.Itoa(at[s.begin])+"-"+strconv.Itoa(at[s.end]))
	}
	return strings.Join(pieces, ",")
}
