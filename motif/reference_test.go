package motif_test

import (
	"math/rand"
	"slices"
	"sort"
	"strconv"
	"strings"
	"testing"

	"motif/motif"
)

// What follows is the document once more, written without numbers and tables:
// words by their definition, terms by their names. All patterns of it know
// three letters: a, b, and c for each other symbol.

// letters are sets: 1 a, 2 b, 4 c.
func letterSet(letter byte) int {
	return 1 << (letter - 'a')
}

// named is a term: those with the same name are the same.
type named struct {
	kind    string
	letters int
	parts   []named
	name    string
}

func madeOf(kind string, parts ...named) named {
	var names []string
	for _, part := range parts {
		names = append(names, part.name)
	}
	return named{kind: kind, parts: parts, name: kind + "(" + strings.Join(names, ",") + ")"}
}

func namedSet(letters int) named {
	return named{kind: "set", letters: letters, name: "set" + strconv.Itoa(letters)}
}

func namedEmpty() named { return madeOf("empty") }

func namedChain(first, second named) named {
	if first.name == "set0" || second.name == "set0" {
		return namedSet(0)
	}
	if first.kind == "empty" {
		return second
	}
	if second.kind == "empty" {
		return first
	}
	if first.kind == "chain" {
		return namedChain(first.parts[0], namedChain(first.parts[1], second))
	}
	return madeOf("chain", first, second)
}

func namedStar(of named) named {
	if of.name == "set0" || of.kind == "empty" {
		return namedEmpty()
	}
	if of.kind == "star" {
		return of
	}
	return madeOf("star", of)
}

func namedNot(of named) named {
	if of.kind == "not" {
		return of.parts[0]
	}
	return madeOf("not", of)
}

// namedJoin makes an any or all, by steps over the whole list.
func namedJoin(kind, idle, ruler string, merge func(a, b int) int, members []named) named {
	for i, member := range members {
		if member.kind == kind {
			return namedJoin(kind, idle, ruler, merge, slices.Concat(members[:i], member.parts, members[i+1:]))
		}
	}
	for i, one := range members {
		for k, other := range members[:i] {
			if one.kind == "set" && other.kind == "set" {
				rest := slices.Concat(members[:k], members[k+1:i], members[i+1:])
				return namedJoin(kind, idle, ruler, merge, append(rest, namedSet(merge(one.letters, other.letters))))
			}
			if one.name == other.name {
				return namedJoin(kind, idle, ruler, merge, slices.Concat(members[:i], members[i+1:]))
			}
		}
		if one.name == idle && len(members) > 1 {
			return namedJoin(kind, idle, ruler, merge, slices.Concat(members[:i], members[i+1:]))
		}
	}
	for _, member := range members {
		if member.name == ruler {
			return member
		}
	}
	if len(members) == 1 {
		return members[0]
	}
	sort.Slice(members, func(i, k int) bool { return members[i].name < members[k].name })
	return madeOf(kind, members...)
}

func namedAny(members ...named) named {
	return namedJoin("any", "set0", "not(set0)", func(a, b int) int { return a | b }, members)
}

func namedAll(members ...named) named {
	return namedJoin("all", "not(set0)", "set0", func(a, b int) int { return a & b }, members)
}

func (n named) hasEmpty() bool {
	switch n.kind {
	case "empty", "star":
		return true
	case "not":
		return !n.parts[0].hasEmpty()
	case "any":
		return slices.ContainsFunc(n.parts, named.hasEmpty)
	case "chain", "all":
		return !slices.ContainsFunc(n.parts, func(part named) bool { return !part.hasEmpty() })
	}
	return false
}

func (n named) becomes(letter byte) named {
	var next []named
	for _, part := range n.parts {
		next = append(next, part.becomes(letter))
	}
	switch n.kind {
	case "set":
		if n.letters&letterSet(letter) != 0 {
			return namedEmpty()
		}
		return namedSet(0)
	case "chain":
		first := namedChain(next[0], n.parts[1])
		if n.parts[0].hasEmpty() {
			return namedAny(first, next[1])
		}
		return first
	case "star":
		return namedChain(next[0], n)
	case "any":
		return namedAny(next...)
	case "all":
		return namedAll(next...)
	case "not":
		return namedNot(next[0])
	}
	return namedSet(0)
}

// example is a pattern, an atom: which words it has, and its term.
type example struct {
	pattern string
	has     func(word string) bool
	term    named
}

func singleExample(pattern string, letters int) example {
	has := func(word string) bool { return len(word) == 1 && letters&letterSet(word[0]) != 0 }
	return example{pattern, has, namedSet(letters)}
}

func emptyExample() example {
	return example{"()", func(word string) bool { return word == "" }, namedEmpty()}
}

func rowExample(first, second example) example {
	has := func(word string) bool {
		for cut := range len(word) + 1 {
			if first.has(word[:cut]) && second.has(word[cut:]) {
				return true
			}
		}
		return false
	}
	return example{"(" + first.pattern + second.pattern + ")", has, namedChain(first.term, second.term)}
}

func anyExample(one, other example) example {
	has := func(word string) bool { return one.has(word) || other.has(word) }
	return example{"(" + one.pattern + "|" + other.pattern + ")", has, namedAny(one.term, other.term)}
}

func allExample(one, other example) example {
	has := func(word string) bool { return one.has(word) && other.has(word) }
	return example{"(" + one.pattern + "&" + other.pattern + ")", has, namedAll(one.term, other.term)}
}

func notExample(of example) example {
	has := func(word string) bool { return !of.has(word) }
	return example{"(~" + of.pattern + ")", has, namedNot(of.term)}
}

const endless = 99 // times: more than a word here can need

// repeats tells whether a word is of least to most words, one behind the other.
func repeats(has func(word string) bool, least, most int, word string) bool {
	if least <= 0 && word == "" {
		return true
	}
	if most == 0 {
		return false
	}
	if least > 0 && has("") && repeats(has, least-1, most-1, word) {
		return true
	}
	for cut := 1; cut <= len(word); cut++ {
		if has(word[:cut]) && repeats(has, least-1, most-1, word[cut:]) {
			return true
		}
	}
	return false
}

func repeatExample(of example, mark string, least, most int) example {
	has := func(word string) bool { return repeats(of.has, least, most, word) }
	term := namedEmpty()
	if most == endless {
		term = namedStar(of.term)
	} else {
		for range most - least {
			term = namedChain(namedAny(namedEmpty(), of.term), term)
		}
	}
	for range least {
		term = namedChain(of.term, term)
	}
	return example{"(" + of.pattern + mark + ")", has, term}
}

func someExample(r *rand.Rand, depth int) example {
	if depth == 0 || r.Intn(6) == 0 {
		return someSingle(r)
	}
	one := someExample(r, depth-1)
	switch r.Intn(12) {
	case 0:
		return notExample(one)
	case 1:
		return repeatExample(one, "*", 0, endless)
	case 2:
		return repeatExample(one, "+", 1, endless)
	case 3:
		return repeatExample(one, "?", 0, 1)
	case 4:
		least := r.Intn(3)
		return repeatExample(one, "{"+strconv.Itoa(least)+"}", least, least)
	case 5:
		least := r.Intn(3)
		return repeatExample(one, "{"+strconv.Itoa(least)+",}", least, endless)
	case 6:
		least, more := r.Intn(3), r.Intn(3)
		return repeatExample(one, "{"+strconv.Itoa(least)+","+strconv.Itoa(least+more)+"}", least, least+more)
	case 7, 8:
		return anyExample(one, someExample(r, depth-1))
	case 9:
		return allExample(one, someExample(r, depth-1))
	}
	return rowExample(one, someExample(r, depth-1))
}

func someSingle(r *rand.Rand) example {
	switch r.Intn(9) {
	case 0:
		return emptyExample()
	case 1:
		return singleExample("[]", 0)
	case 2:
		return singleExample(".", 7)
	case 3:
		return singleExample("[ab]", 3)
	case 4:
		return singleExample("[^a]", 6)
	case 5:
		return singleExample("[^a-b]", 4)
	case 6:
		return singleExample(`\u{62}`, 2)
	}
	return singleExample("a", 1)
}

// someText makes a word, and a text whose symbols are its letters.
func someText(r *rand.Rand) (word string, symbols []string) {
	for range r.Intn(7) {
		letter := "abc"[r.Intn(3)]
		word += string(letter)
		symbol := string(letter)
		if letter == 'c' {
			symbol = []string{"c", "\x00", "é", "日", "😀", "\xff", "\xf0"}[r.Intn(7)]
		}
		symbols = append(symbols, symbol)
	}
	return word, symbols
}

// meeting counts different terms.
type meeting map[string]bool

func (m meeting) whole(term named, word string) {
	m[term.name] = true
	for i := range word {
		term = term.becomes(word[i])
		m[term.name] = true
	}
}

// from meets what is met at one place.
func (m meeting) from(term named, word string) {
	m[term.name] = true
	for i := 0; i < len(word) && term.name != "set0"; i++ {
		term = term.becomes(word[i])
		m[term.name] = true
	}
}

// find tells a stretch, in letters, or -1 and -1.
func (m meeting) find(e example, word string, from int) (int, int) {
	for a := from; a <= len(word); a++ {
		m.from(e.term, word[a:])
		for b := len(word); b >= a; b-- {
			if e.has(word[a:b]) {
				return a, b
			}
		}
	}
	return -1, -1
}

func eachExample(t *testing.T, hand func(r *rand.Rand, e example)) {
	t.Helper()
	r := rand.New(rand.NewSource(5))
	for right := 0; right < 4000; {
		e := someExample(r, 1+r.Intn(4))
		if err, place := motif.Check(e.pattern); err == motif.OK {
			right++
			hand(r, e)
		} else if err == motif.ErrForm || err == motif.ErrRange {
			t.Fatalf("Check(%q) = %d, %d", e.pattern, err, place)
		}
		if t.Failed() {
			return
		}
	}
}

func TestMatchAgainstTheWords(t *testing.T) {
	eachExample(t, func(r *rand.Rand, e example) {
		for range 5 {
			word, symbols := someText(r)
			met := meeting{}
			met.whole(e.term, word)
			text := strings.Join(symbols, "")
			wantMatches(t, []matchCase{
				{e.pattern, text, 200, e.has(word), motif.OK},
				{e.pattern, text, len(met), e.has(word), motif.OK},
				{e.pattern, text, len(met) - 1, false, motif.ErrBudget},
			})
		}
	})
}

// byteAt tells the place of a symbol in bytes; -1 stays.
func byteAt(symbols []string, place int) int {
	if place < 0 {
		return place
	}
	return len(strings.Join(symbols[:place], ""))
}

func TestFindAgainstTheWords(t *testing.T) {
	eachExample(t, func(r *rand.Rand, e example) {
		for range 5 {
			word, symbols := someText(r)
			from := r.Intn(len(word) + 1)
			met := meeting{}
			a, b := met.find(e, word, from)
			text, at := strings.Join(symbols, ""), byteAt(symbols, from)
			wantFinds(t, []findCase{
				{e.pattern, text, at, 200, byteAt(symbols, a), byteAt(symbols, b), motif.OK},
				{e.pattern, text, at, len(met), byteAt(symbols, a), byteAt(symbols, b), motif.OK},
				{e.pattern, text, at, len(met) - 1, 0, 0, motif.ErrBudget},
			})
		}
	})
}

func TestFindAllAgainstTheWords(t *testing.T) {
	eachExample(t, func(r *rand.Rand, e example) {
		for range 5 {
			word, symbols := someText(r)
			met := meeting{}
			var list []string
			a, b := met.find(e, word, 0)
			for a >= 0 {
				list = append(list, strconv.Itoa(byteAt(symbols, a))+"-"+strconv.Itoa(byteAt(symbols, b)))
				if a == b && b == len(word) {
					break
				}
				next := b
				if a == b {
					next++
				}
				a, b = met.find(e, word, next)
			}
			text, out := strings.Join(symbols, ""), strings.Join(list, ",")
			wantAlls(t, []allCase{
				{e.pattern, text, 200, out, motif.OK},
				{e.pattern, text, len(met), out, motif.OK},
				{e.pattern, text, len(met) - 1, "", motif.ErrBudget},
			})
		}
	})
}

// alphabet tells how the letters are written: a and b as symbols, c as the
// least of all others; and in which order the three come.
type alphabet struct {
	a, b, c string
	order   string
	spans   []letterSpan // all symbols
}

// letterSpan is neighbours that are one letter, in hexadecimal digits.
type letterSpan struct {
	low, high string
	letter    byte
}

func alphabets() []alphabet {
	return []alphabet{
		{"a", "b", "\x00", "cab", []letterSpan{{"0", "60", 'c'}, {"61", "61", 'a'}, {"62", "62", 'b'}, {"63", "10ffff", 'c'}}},
		{"\x00", "\x01", "\x02", "abc", []letterSpan{{"0", "0", 'a'}, {"1", "1", 'b'}, {"2", "10ffff", 'c'}}},
		{"\ud7ff", "\ue000", "\x00", "cab", []letterSpan{{"0", "d7fe", 'c'}, {"d7ff", "d7ff", 'a'}, {"e000", "e000", 'b'}, {"e001", "10ffff", 'c'}}},
		{"\ue000", "\ue001", "\x00", "cab", []letterSpan{{"0", "d7ff", 'c'}, {"e000", "e000", 'a'}, {"e001", "e001", 'b'}, {"e002", "10ffff", 'c'}}},
		{"é", "ê", "\x00", "cab", []letterSpan{{"0", "e8", 'c'}, {"e9", "e9", 'a'}, {"ea", "ea", 'b'}, {"eb", "10ffff", 'c'}}},
		{"\U0010fffe", "\U0010ffff", "\x00", "cab", []letterSpan{{"0", "10fffd", 'c'}, {"10fffe", "10fffe", 'a'}, {"10ffff", "10ffff", 'b'}}},
	}
}

// someAlphabet is one in which a pattern of a, b and c is not too long.
func someAlphabet(r *rand.Rand, patterns ...string) alphabet {
	all := alphabets()
	s := all[r.Intn(len(all))]
	for _, pattern := range patterns {
		if len(s.written(pattern)) > 60 {
			return all[0]
		}
	}
	return s
}

// written writes a pattern over a, b and c in an alphabet's symbols.
func (s alphabet) written(pattern string) string {
	return strings.NewReplacer(`\u{62}`, s.b, "a", s.a, "b", s.b).Replace(pattern)
}

func (s alphabet) text(word string) string {
	return strings.NewReplacer("a", s.a, "b", s.b, "c", s.c).Replace(word)
}

// least tells the least word of up to five letters, by trying all of them.
func (s alphabet) least(has func(word string) bool) (string, bool) {
	words := []string{""}
	for range 6 {
		if at := slices.IndexFunc(words, has); at >= 0 {
			return words[at], true
		}
		var longer []string
		for _, word := range words {
			for _, letter := range s.order {
				longer = append(longer, word+string(letter))
			}
		}
		words = longer
	}
	return "", false
}

// remainders tells the remainders of a term, itself as the first; of more than
// 200 some more than that.
func (n named) remainders() []named {
	seen := meeting{n.name: true}
	list := []named{n}
	for place := 0; place < len(list) && len(list) <= 200; place++ {
		for _, letter := range []byte("abc") {
			if next := list[place].becomes(letter); !seen[next.name] {
				seen[next.name] = true
				list = append(list, next)
			}
		}
	}
	return list
}

// wantComparison: what a call must answer about the words of an example.
func wantComparison(t *testing.T, s alphabet, e example, name string, ask func(budget int) (bool, string, motif.Errno)) {
	t.Helper()
	list := e.term.remainders()
	count, hasWord := len(list), slices.ContainsFunc(list, named.hasEmpty)
	if yes, word, err := ask(count - 1); yes || word != "" || err != motif.ErrBudget {
		t.Errorf("%s with %d: %v, %q, %d, want ErrBudget", name, count-1, yes, word, err)
	}
	if count > 200 {
		return
	}
	least, short := s.least(e.has)
	for _, budget := range []int{count, 200} {
		yes, word, err := ask(budget)
		if yes == hasWord || err != motif.OK || yes && word != "" {
			t.Errorf("%s with %d: %v, %q, %d, want %v", name, budget, yes, word, err, !hasWord)
		}
		if short && word != s.text(least) || !short && hasWord && len([]rune(word)) <= 5 {
			t.Errorf("%s with %d: the word %q, want %q (%v)", name, budget, word, s.text(least), short)
		}
	}
}

func TestComparisonsAgainstTheWords(t *testing.T) {
	before := emptyExample()
	eachExample(t, func(r *rand.Rand, e example) {
		s := someAlphabet(r, e.pattern, before.pattern)
		one, two := s.written(e.pattern), s.written(before.pattern)
		inOne := allExample(e, notExample(before))
		inTwo := allExample(before, notExample(e))
		wantComparison(t, s, e, "Empty of "+one, func(budget int) (bool, string, motif.Errno) { return motif.Empty(one, budget) })
		wantComparison(t, s, inOne, "Includes of "+one+" and "+two, func(budget int) (bool, string, motif.Errno) { return motif.Includes(one, two, budget) })
		wantComparison(t, s, anyExample(inOne, inTwo), "Equal of "+one+" and "+two, func(budget int) (bool, string, motif.Errno) { return motif.Equal(one, two, budget) })
		before = e
	})
}

// movesOf tells to which remainders the remainders of a term go on by a, b, c.
func movesOf(list []named) [][3]int {
	places := map[string]int{}
	for place, n := range list {
		places[n.name] = place
	}
	moves := make([][3]int, len(list))
	for place, n := range list {
		for i, letter := range []byte("abc") {
			moves[place][i] = places[n.becomes(letter).name]
		}
	}
	return moves
}

// firstsOf tells for each remainder the first one with the same words: each two
// are held against each other, until no more of them differ.
func firstsOf(list []named, moves [][3]int) []int {
	differ := make([][]bool, len(list))
	for i := range list {
		differ[i] = make([]bool, len(list))
		for k := range list {
			differ[i][k] = list[i].hasEmpty() != list[k].hasEmpty()
		}
	}
	for more := true; more; {
		more = false
		for i := range list {
			for k := range list {
				for letter := range 3 {
					if !differ[i][k] && differ[moves[i][letter]][moves[k][letter]] {
						differ[i][k], more = true, true
					}
				}
			}
		}
	}
	var firsts []int
	for i := range list {
		firsts = append(firsts, slices.Index(differ[i], false))
	}
	return firsts
}

// automaton writes the smallest automaton with a term's words.
func (s alphabet) automaton(list []named) string {
	moves := movesOf(list)
	firsts := firstsOf(list, moves)
	text, states := "", []int{0}
	for at := 0; at < len(states); at++ {
		sign := "-"
		if list[states[at]].hasEmpty() {
			sign = "+"
		}
		var spans []string
		low, before := "", -1
		for _, span := range s.spans {
			first := firsts[moves[states[at]][span.letter-'a']]
			if !slices.Contains(states, first) {
				states = append(states, first)
			}
			state := slices.Index(states, first)
			if state == before {
				spans = spans[:len(spans)-1]
			} else {
				low, before = span.low, state
			}
			spans = append(spans, low+"-"+span.high+">"+strconv.Itoa(state))
		}
		text += sign + strings.Join(spans, ",") + ";"
	}
	return text
}

func TestMinimalAgainstTheWords(t *testing.T) {
	eachExample(t, func(r *rand.Rand, e example) {
		s := someAlphabet(r, e.pattern)
		pattern, list := s.written(e.pattern), e.term.remainders()
		wantMinimals(t, []minimalCase{{pattern, len(list) - 1, "", motif.ErrBudget}})
		if len(list) > 200 {
			return
		}
		text := s.automaton(list)
		wantMinimals(t, []minimalCase{{pattern, len(list), text, motif.OK}, {pattern, 200, text, motif.OK}})
	})
}
