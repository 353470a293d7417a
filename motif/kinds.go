package motif

import "slices"

// behaviour is what a kind of term has of its own.
type behaviour struct {
	hasEmpty func(t *table, k key) bool
	becomes  func(t *table, k key, symbol rune) int
	classes  func(t *table, k key) []rune // see classesOf
}

func behaviours() [kindCount]behaviour {
	return [kindCount]behaviour{
		setTerm:   ofSets(),
		emptyTerm: ofEmpty(),
		chainTerm: ofChains(),
		starTerm:  ofStars(),
		anyTerm:   ofAnys(),
		allTerm:   ofAlls(),
		notTerm:   ofNots(),
	}
}

func ofSets() behaviour {
	return behaviour{
		hasEmpty: func(t *table, k key) bool { return false },
		becomes: func(t *table, k key, symbol rune) int {
			if k.set.has(symbol) {
				return empty
			}
			return none
		},
		classes: func(t *table, k key) []rune { return k.set.borders() },
	}
}

func ofEmpty() behaviour {
	return behaviour{
		hasEmpty: func(t *table, k key) bool { return true },
		becomes:  func(t *table, k key, symbol rune) int { return none },
		classes:  func(t *table, k key) []rune { return noSymbols.borders() },
	}
}

func ofChains() behaviour {
	return behaviour{
		hasEmpty: func(t *table, k key) bool { return t.terms[k.first].hasEmpty && t.terms[k.second].hasEmpty },
		becomes: func(t *table, k key, symbol rune) int {
			next := t.chain(t.becomes(k.first, symbol), k.second)
			if !t.terms[k.first].hasEmpty {
				return next
			}
			return t.any([]int{next, t.becomes(k.second, symbol)})
		},
		classes: func(t *table, k key) []rune {
			if !t.terms[k.first].hasEmpty {
				return t.classesOf(k.first)
			}
			return t.classesOfAll([]int{k.first, k.second})
		},
	}
}

func ofStars() behaviour {
	return behaviour{
		hasEmpty: func(t *table, k key) bool { return true },
		becomes: func(t *table, k key, symbol rune) int {
			return t.chain(t.becomes(k.first, symbol), t.star(k.first))
		},
		classes: func(t *table, k key) []rune { return t.classesOf(k.first) },
	}
}

func ofAnys() behaviour {
	return behaviour{
		hasEmpty: func(t *table, k key) bool { return t.terms[k.first].hasEmpty || t.terms[k.second].hasEmpty },
		becomes: func(t *table, k key, symbol rune) int {
			return t.any(t.becomeAll(t.parts(k), symbol))
		},
		classes: func(t *table, k key) []rune { return t.classesOfAll(t.parts(k)) },
	}
}

func ofAlls() behaviour {
	return behaviour{
		hasEmpty: func(t *table, k key) bool { return t.terms[k.first].hasEmpty && t.terms[k.second].hasEmpty },
		becomes: func(t *table, k key, symbol rune) int {
			return t.all(t.becomeAll(t.parts(k), symbol))
		},
		classes: func(t *table, k key) []rune { return t.classesOfAll(t.parts(k)) },
	}
}

func ofNots() behaviour {
	return behaviour{
		hasEmpty: func(t *table, k key) bool { return !t.terms[k.first].hasEmpty },
		becomes:  func(t *table, k key, symbol rune) int { return t.not(t.becomes(k.first, symbol)) },
		classes:  func(t *table, k key) []rune { return t.classesOf(k.first) },
	}
}

// parts tells the members of an any or all.
func (t *table) parts(k key) []int {
	return append([]int{k.first}, t.spread(k.kind, k.second)...)
}

func (t *table) becomeAll(numbers []int, symbol rune) []int {
	var next []int
	for _, number := range numbers {
		next = append(next, t.becomes(number, symbol))
	}
	return next
}

func (t *table) classesOfAll(numbers []int) []rune {
	var lows []rune
	for _, number := range numbers {
		lows = append(lows, t.classesOf(number)...)
	}
	slices.Sort(lows)
	return slices.Compact(lows)
}
