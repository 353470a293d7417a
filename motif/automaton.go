package motif

import (
	"strconv"
	"strings"
)

// smallest writes the smallest automaton with the words of a term. At first all
// remainders are taken for one state; each round tells those apart that differ
// by the states of the round before. When a round finds no more states than
// there were, the remainders of one state have the same words.
func (t *table) smallest(start, budget int) string {
	list := t.remainders(start, budget)
	states, count := map[int]int{}, 1
	for {
		next, lines := t.tellApart(list, states)
		if len(lines) == count {
			return strings.Join(lines, "")
		}
		states, count = next, len(lines)
	}
}

// tellApart tells the state of each remainder, by the states that were told
// before, and writes a line for each state. The remainders stand in the order
// of their least words, and the automaton meets its states in that order too:
// so the next number is right for a state that none of them had before.
func (t *table) tellApart(list []remainder, before map[int]int) (states map[int]int, lines []string) {
	states = map[int]int{}
	known := map[string]int{}
	for _, r := range list {
		line := t.line(r.number, before)
		state, ok := known[line]
		if !ok {
			state = len(lines)
			known[line] = state
			lines = append(lines, line)
		}
		states[r.number] = state
	}
	return states, lines
}

// line writes whether a word may end at a remainder, and to which states one
// goes on from there.
func (t *table) line(number int, states map[int]int) string {
	var spans []string
	for _, s := range t.spans(number, states) {
		spans = append(spans, strconv.FormatInt(int64(s.low), 16)+"-"+strconv.FormatInt(int64(s.high), 16)+">"+strconv.Itoa(s.state))
	}
	sign := "-"
	if t.terms[number].hasEmpty {
		sign = "+"
	}
	return sign + strings.Join(spans, ",") + ";"
}

// span is neighbours that all go on to one state.
type span struct {
	piece
	state int
}

// spans tells where one goes on to by all symbols, from the lowest on. Symbols
// that a remainder tells apart may go on to one state all the same.
func (t *table) spans(number int, states map[int]int) []span {
	var spans []span
	for _, low := range t.classesOf(number) {
		state := states[t.becomes(number, low)]
		last := len(spans) - 1
		if last >= 0 && spans[last].state == state {
			continue
		}
		if last >= 0 {
			spans[last].high = below(low)
		}
		spans = append(spans, span{piece{low, lastSymbol}, state})
	}
	return spans
}
