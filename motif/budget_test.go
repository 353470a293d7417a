package motif_test

import (
	"testing"

	"motif/motif"
)

// answer is what any call with a budget tells beside the error.
type answer struct {
	yes        bool
	text       string
	begin, end int
}

// question is such a call, with all but the budget.
type question struct {
	name string
	ask  func(budget int) (answer, motif.Errno)
}

func questionsOfOne(pattern string) []question {
	return []question{
		{"Empty of " + pattern, func(budget int) (a answer, err motif.Errno) {
			a.yes, a.text, err = motif.Empty(pattern, budget)
			return a, err
		}},
		{"Minimal of " + pattern, func(budget int) (a answer, err motif.Errno) {
			a.text, err = motif.Minimal(pattern, budget)
			return a, err
		}},
	}
}

func questionsOfTwo(pattern, other string) []question {
	return []question{
		{"Includes of " + pattern + " and " + other, func(budget int) (a answer, err motif.Errno) {
			a.yes, a.text, err = motif.Includes(pattern, other, budget)
			return a, err
		}},
		{"Equal of " + pattern + " and " + other, func(budget int) (a answer, err motif.Errno) {
			a.yes, a.text, err = motif.Equal(pattern, other, budget)
			return a, err
		}},
	}
}

func questionsOfText(pattern, text string) []question {
	return []question{
		{"Match of " + pattern + " and " + text, func(budget int) (a answer, err motif.Errno) {
			a.yes, err = motif.Match(pattern, text, budget)
			return a, err
		}},
		{"Find of " + pattern + " in " + text, func(budget int) (a answer, err motif.Errno) {
			a.begin, a.end, err = motif.Find(pattern, text, 0, budget)
			return a, err
		}},
		{"Find of " + pattern + " at the end of " + text, func(budget int) (a answer, err motif.Errno) {
			a.begin, a.end, err = motif.Find(pattern, text, len(text), budget)
			return a, err
		}},
		{"FindAll of " + pattern + " in " + text, func(budget int) (a answer, err motif.Errno) {
			a.text, err = motif.FindAll(pattern, text, budget)
			return a, err
		}},
	}
}

// questions are asked by each call that takes a budget.
func questions(patterns, texts []string) []question {
	var list []question
	for _, pattern := range patterns {
		list = append(list, questionsOfOne(pattern)...)
		for _, other := range patterns {
			list = append(list, questionsOfTwo(pattern, other)...)
		}
		for _, text := range texts {
			list = append(list, questionsOfText(pattern, text)...)
		}
	}
	return list
}

// TestBudgetsDoNoHarm: a budget that is enough answers what each greater does,
// and each one less tells ErrBudget alone.
func TestBudgetsDoNoHarm(t *testing.T) {
	patterns := []string{`a|ab|b`, `~(.*ab.*)`, `(a|b)*a(a|b){2}`, `a{2,5}&~(aaa)`, `(a|ab)(c|bcb)`, `.*a.*&.*b.*`, ``, `[]`, `.*`}
	texts := []string{``, `xabab`, `aaaaaaaa`, `bbabbabbbaab`, `éab日`}
	for _, q := range questions(patterns, texts) {
		var want answer
		answered := false
		for budget := range 201 {
			got, err := q.ask(budget)
			switch {
			case err == motif.OK && !answered:
				want, answered = got, true
			case err == motif.OK && got != want, err != motif.OK && answered:
				t.Errorf("%s with %d: %v, %d, and %v with less", q.name, budget, got, err, want)
			case err != motif.OK && (err != motif.ErrBudget || got != answer{}):
				t.Errorf("%s with %d: %v, %d", q.name, budget, got, err)
			}
		}
		if !answered {
			t.Errorf("%s never answers", q.name)
		}
		if got, err := q.ask(0); err != motif.ErrBudget {
			t.Errorf("%s with 0: %v, %d", q.name, got, err)
		}
		for _, budget := range []int{-1, 201} {
			if got, err := q.ask(budget); err != motif.ErrArg || got != (answer{}) {
				t.Errorf("%s with %d: %v, %d", q.name, budget, got, err)
			}
		}
	}
}

// TestAllCallsKeepNothing: all calls, among one another, in another order.
func TestAllCallsKeepNothing(t *testing.T) {
	type told struct {
		answer
		err motif.Errno
	}
	list := questions([]string{`a*b`, `~(a*)`, `.*a.{3}`, `a&b`, `(`, `[b-a]`, `b|ab`, `(a|b)*a(a|b){9}`}, []string{``, `xaab`, "\xffb"})
	budgets := []int{0, 2, 5, 200, 201}
	ask := func(at int) told {
		a, err := list[at/len(budgets)].ask(budgets[at%len(budgets)])
		return told{a, err}
	}
	count := len(list) * len(budgets)
	var first []told
	for at := range count {
		first = append(first, ask(at))
	}
	// A stride that has no divisor in common with the count goes to each place.
	for _, stride := range []int{count - 1, 7919, 1} {
		for i := range count {
			at := (i + 1) * stride % count
			if again := ask(at); again != first[at] {
				t.Errorf("%s with %d: %v, and before %v", list[at/len(budgets)].name, budgets[at%len(budgets)], again, first[at])
			}
		}
	}
}
