package motif

import "slices"

// meeting counts the different terms that are met.
type meeting struct {
	budget int
	met    map[int]struct{}
}

func newMeeting(budget int) meeting {
	return meeting{budget, map[int]struct{}{}}
}

// meet tells whether a term is a new one. It gives up by a panic with a giveUp
// if that is one more than the budget.
func (m meeting) meet(number int) bool {
	before := len(m.met)
	m.met[number] = struct{}{}
	if len(m.met) > m.budget {
		panic(giveUp{ErrBudget, 0})
	}
	return len(m.met) > before
}

// remainder is a term, and the last step of the least word that leads to it.
type remainder struct {
	number int
	from   int // a place in the list of remainders
	by     rune
}

// remainders tells all remainders of a term, itself as the first. Each is met
// by its least word ahead of the others, and they stand in the order of these
// words: the list is gone through as it grows, each time from the lowest
// symbol on.
func (t *table) remainders(start, budget int) []remainder {
	m := newMeeting(budget)
	m.meet(start)
	list := []remainder{{number: start}}
	for place := 0; place < len(list); place++ {
		number := list[place].number
		for _, symbol := range t.classesOf(number) {
			if next := t.becomes(number, symbol); m.meet(next) {
				list = append(list, remainder{next, place, symbol})
			}
		}
	}
	return list
}

// leastWord tells the least word of a term, if it has one. All remainders are
// met ahead of that: the budget is for all of them.
func (t *table) leastWord(start, budget int) (word string, found bool) {
	list := t.remainders(start, budget)
	end := slices.IndexFunc(list, func(r remainder) bool { return t.terms[r.number].hasEmpty })
	if end < 0 {
		return "", false
	}
	var symbols []rune
	for place := end; place > 0; place = list[place].from {
		symbols = append(symbols, list[place].by)
	}
	slices.Reverse(symbols)
	return string(symbols), true
}

// lacking makes the term of the words of one term that another lacks.
func (t *table) lacking(one, other int) int {
	return t.all([]int{one, t.not(other)})
}

// differing makes the term of the words that just one of two terms has.
func (t *table) differing(one, other int) int {
	return t.any([]int{t.lacking(one, other), t.lacking(other, one)})
}
