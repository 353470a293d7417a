package motif

import (
	"cmp"
	"slices"
	"testing"
)

// wordTo tells the word by which a remainder was met.
func wordTo(list []remainder, place int) []rune {
	if place == 0 {
		return nil
	}
	return append(wordTo(list, list[place].from), list[place].by)
}

func compareWords(a, b []rune) int {
	return cmp.Or(cmp.Compare(len(a), len(b)), slices.Compare(a, b))
}

// TestRemaindersInOrder: each remainder stands once, its word leads to it, and
// the words grow; what a remainder becomes is among them.
func TestRemaindersInOrder(t *testing.T) {
	for _, pattern := range []string{``, `[]`, `a*`, `(a|b)*a(a|b){3}`, `~(.*ab.*)&...`, `b{2,5}|[^a]c|\u{d7ff}x|[é-\u{e000}]?`, `[\u{d7ff}-\u{e000}]*é|~(.\w)`} {
		table := newTable()
		list := table.remainders(table.termOf(pattern), maxBudget)
		places := map[int]int{}
		for place, r := range list {
			if before, known := places[r.number]; known {
				t.Errorf("%q: the remainders %d and %d are one", pattern, before, place)
			}
			places[r.number] = place
			word := wordTo(list, place)
			if place > 0 && compareWords(wordTo(list, place-1), word) >= 0 {
				t.Errorf("%q: the words of %d and %d are in no order", pattern, place-1, place)
			}
			number := table.termOf(pattern)
			for _, symbol := range word {
				number = table.becomes(number, symbol)
			}
			if number != r.number {
				t.Errorf("%q: %q does not lead to the remainder %d", pattern, string(word), place)
			}
		}
		for place, r := range list {
			for _, symbol := range "\x00\x01`abcdxyzéê\ud7fe\ud7ff\ue000\ue001\U0010ffff" {
				next, known := places[table.becomes(r.number, symbol)]
				if !known {
					t.Errorf("%q: what %d becomes by %q is left out", pattern, place, symbol)
				} else if word := append(wordTo(list, place), symbol); compareWords(wordTo(list, next), word) > 0 {
					t.Errorf("%q: %q leads to the remainder %d too, and is less than its word", pattern, string(word), next)
				}
			}
		}
	}
}

func TestMeetTellsNewTerms(t *testing.T) {
	m := newMeeting(2)
	for i, c := range []struct {
		number int
		isNew  bool
	}{{7, true}, {7, false}, {3, true}, {7, false}, {3, false}} {
		if m.meet(c.number) != c.isNew {
			t.Errorf("meeting %d: new is %v", i, !c.isNew)
		}
	}
	if stop := attempt(func() { m.meet(4) }); stop != (giveUp{ErrBudget, 0}) {
		t.Errorf("one more than the budget: %v", stop)
	}
}
