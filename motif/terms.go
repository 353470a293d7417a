package motif

import "slices"

type kind int

const (
	setTerm kind = iota
	emptyTerm
	chainTerm
	starTerm
	anyTerm
	allTerm
	notTerm
	kindCount
)

// The terms with which each table begins.
const (
	none  = 0 // the set of no symbols
	empty = 1 // the empty word
	every = 2 // the not of the set of no symbols
)

// key is what a term is made of. An any or all of more than two is kept as one
// of its first member and of the any or all of the others, the members in the
// order of their numbers, a set as the last: so the same members make the same
// key.
type key struct {
	kind   kind
	set    set // of a set
	first  int // of a chain, any or all; what a star or not is of
	second int // of a chain, any or all
}

type term struct {
	key
	hasEmpty bool
}

type step struct {
	from int
	by   rune
}

// table keeps each term once: its number is its place in terms.
type table struct {
	kinds   [kindCount]behaviour
	numbers map[key]int
	terms   []term
	steps   map[step]int
	classes map[int][]rune
}

func newTable() *table {
	t := &table{
		kinds:   behaviours(),
		numbers: map[key]int{},
		steps:   map[step]int{},
		classes: map[int][]rune{},
	}
	t.keep(key{kind: setTerm, set: noSymbols})
	t.keep(key{kind: emptyTerm})
	t.keep(key{kind: notTerm, first: none})
	return t
}

func (t *table) keep(k key) int {
	if number, known := t.numbers[k]; known {
		return number
	}
	number := len(t.terms)
	t.numbers[k] = number
	t.terms = append(t.terms, term{k, t.kinds[k.kind].hasEmpty(t, k)})
	return number
}

func (t *table) set(s set) int {
	return t.keep(key{kind: setTerm, set: s})
}

func (t *table) chain(first, second int) int {
	switch {
	case first == none || second == none:
		return none
	case first == empty:
		return second
	case second == empty:
		return first
	}
	if k := t.terms[first].key; k.kind == chainTerm {
		return t.chain(k.first, t.chain(k.second, second))
	}
	return t.keep(key{kind: chainTerm, first: first, second: second})
}

// row chains terms from the last one on.
func (t *table) row(terms []int) int {
	number := empty
	for _, first := range slices.Backward(terms) {
		number = t.chain(first, number)
	}
	return number
}

func (t *table) star(of int) int {
	if of == none || of == empty {
		return empty
	}
	if t.terms[of].kind == starTerm {
		return of
	}
	return t.keep(key{kind: starTerm, first: of})
}

// repeat makes the term of all repeats: each of them is one from a least number
// of times on, to a greatest one or endless.
func (t *table) repeat(of, least, most int) int {
	var row []int
	for range least {
		row = append(row, of)
	}
	if most == endless {
		return t.row(append(row, t.star(of)))
	}
	for range most - least {
		row = append(row, t.any([]int{empty, of}))
	}
	return t.row(row)
}

func (t *table) not(of int) int {
	if k := t.terms[of].key; k.kind == notTerm {
		return k.first
	}
	return t.keep(key{kind: notTerm, first: of})
}

func (t *table) any(terms []int) int {
	members, sets := t.members(anyTerm, terms)
	if len(sets) > 0 {
		members = append(members, t.set(fold(sets, union)))
	}
	return t.join(anyTerm, members, none, every)
}

func (t *table) all(terms []int) int {
	members, sets := t.members(allTerm, terms)
	if len(sets) > 0 {
		members = append(members, t.set(fold(sets, shared)))
	}
	return t.join(allTerm, members, every, none)
}

func fold(sets []set, with func(a, b set) set) set {
	one := sets[0]
	for _, s := range sets[1:] {
		one = with(one, s)
	}
	return one
}

// members tells of what an any (or all) of terms is made, each once and in the
// order of their numbers, the sets apart.
func (t *table) members(k kind, terms []int) (members []int, sets []set) {
	var spread []int
	for _, number := range terms {
		spread = append(spread, t.spread(k, number)...)
	}
	slices.Sort(spread)
	for _, member := range slices.Compact(spread) {
		if made := t.terms[member]; made.kind == setTerm {
			sets = append(sets, made.set)
		} else {
			members = append(members, member)
		}
	}
	return members, sets
}

// spread tells the members of an any (or all); another term is its own one.
func (t *table) spread(k kind, number int) []int {
	var members []int
	for t.terms[number].kind == k {
		members = append(members, t.terms[number].first)
		number = t.terms[number].second
	}
	return append(members, number)
}

// join keeps an any or all of members that stand in the order of a key. It is
// the same with or without idle, and is ruler with it.
func (t *table) join(k kind, members []int, idle, ruler int) int {
	members = slices.DeleteFunc(members, func(member int) bool { return member == idle })
	if len(members) == 0 {
		return idle
	}
	if slices.Contains(members, ruler) {
		return ruler
	}
	last := len(members) - 1
	number := members[last]
	for _, first := range slices.Backward(members[:last]) {
		number = t.keep(key{kind: k, first: first, second: number})
	}
	return number
}

// ofNode makes the term of a pattern.
func (t *table) ofNode(n node) int {
	var parts []int
	for _, part := range n.parts {
		parts = append(parts, t.ofNode(part))
	}
	switch n.shape {
	case aChoice:
		return t.any(parts)
	case aBoth:
		return t.all(parts)
	case aRow:
		return t.row(parts)
	case aNot:
		return t.not(parts[0])
	case aRepeat:
		return t.repeat(parts[0], n.least, n.most)
	}
	return t.set(n.set)
}

// classesOf tells which symbols a term tells apart: the least one of each lot
// that it does not, the lowest ahead (0, always).
func (t *table) classesOf(number int) []rune {
	if lows, known := t.classes[number]; known {
		return lows
	}
	k := t.terms[number].key
	lows := t.kinds[k.kind].classes(t, k)
	t.classes[number] = lows
	return lows
}

// becomes tells what a term becomes by a symbol. It asks by the least symbol
// that the term does not tell from that one: so each lot is gone into once.
func (t *table) becomes(number int, symbol rune) int {
	lows := t.classesOf(number)
	place, found := slices.BinarySearch(lows, symbol)
	if !found {
		place--
	}
	asked := step{number, lows[place]}
	if next, known := t.steps[asked]; known {
		return next
	}
	k := t.terms[number].key
	next := t.kinds[k.kind].becomes(t, k, asked.by)
	t.steps[asked] = next
	return next
}
