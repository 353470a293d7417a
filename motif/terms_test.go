package motif

import (
	"slices"
	"testing"
)

// termOf makes the term of a pattern that is right.
func (t *table) termOf(pattern string) int {
	return t.ofNode(readPattern(pattern))
}

// TestTermsThatAreTheSame: patterns in one list have one term, those of two
// lists two.
func TestTermsThatAreTheSame(t *testing.T) {
	table := newTable()
	seen := map[int]string{}
	for _, list := range [][]string{
		{`[]`, `[]a`, `a[]`, `a*[]b`, `a&[]`, `[]&a*`, `a&b`, `~~[]`, `[]|[]`, `[]+`, `[]{2}`, `a(b&c)`, `ab&[]&c`, `.&~.&[]`},
		{``, `()`, `()()`, `[]*`, `()*`, `()+`, `()?`, `()|()`, `a{0}`, `a{0,0}`, `a{0}*`, `|`, `&`, `~~()`, `[]?`, `[]{0,}`, `()&~[]`},
		{`~[]`, `~[]|a`, `b*|~[]`, `~[]&~[]`, `~(a&b)`, `~(a[])`, `~~~[]`},
		{`a`, `()a`, `a()`, `(a)`, `a|a`, `a&a`, `a|[]`, `[]|a`, `a&~[]`, `~~a`, `a{1}`, `a{1,1}`, `[a]`, `\u{61}`, `[a-a]`, `a&.`, `[ab]&[ac]`},
		{`.`, `[^]`, `~~.`, `.|a`, `[^a]|a`, `[\u{0}-\u{10ffff}]`, `[^a]|[^b]`, `[\u{0}-\u{d7ff}\u{e000}-\u{10ffff}]`},
		{`[ab]`, `a|b`, `b|a`, `a|b|a`, `[a-b]`, `[ba]`, `[a-c]&[^c]`, `[^c]&[a-c]&.`},
		{`[\u{d7ff}\u{e000}]`, `[\u{d7ff}-\u{e000}]`, `\u{d7ff}|\u{e000}`, `\u{e000}|\u{d7ff}`, `[^\u{0}-\u{d7fe}\u{e001}-\u{10ffff}]`},
		{`a*`, `a**`, `(a*)*`, `a*{1}`, `a*|a*`, `a{0,}`, `(a{0,})*`, `()a*`},
		{`aa*`, `a+`, `a{1,}`, `a()a*`, `(a)(a*)`, `aa*|[]`},
		{`a?`, `()|a`, `a|()`, `a??`, `a{0,1}`, `(a?)|a`, `(|a|)`},
		{`abc`, `(ab)c`, `a(bc)`, `((a)b)c`, `()abc`, `a(b()c)`, `(abc){1}`},
		{`aab`, `a{2}b`, `(aa)b`, `a{2,2}b`, `a(ab)`},
		{`aaaa`, `a{4}`, `a{2}{2}`, `(aa)(aa)`, `a(aa)a`},
		{`aa?a?`, `a{1,3}`, `a(a?)(a?)`, `(aa?)a?`},
		{`aaa*`, `a{2,}`, `aa+`},
		{`ab|c`, `c|ab`, `(c|ab)|c`, `ab|c|ab`, `~~(ab|c)`},
		{`ab|c|d`, `d|(c|ab)`, `[cd]|ab`, `(ab|c)|(ab|d)`},
		{`ab|ac|c`, `ac|(c|ab)`, `(ab|c)|ac`, `(ac|ab)|[]|c`},
		{`ab|ac`, `ac|ab`},
		{`a*&b*`, `b*&a*`, `(b*&a*)&a*`, `b*&~[]&a*`, `a*&(b*&a*)`},
		{`a*&b*&c*`, `(c*&a*)&b*`, `c*&(b*&a*)`},
		{`~a`, `~~~a`, `~(a|a)`, `~(a&.)`},
		{`~(ab)`, `~~~(ab)`},
		{`.*`, `.**`, `[^]*`, `(a|[^a])*`}, // which is not the not of no symbols
		{`.&a*`, `a*&.`, `a*&[^]`},         // all symbols are not left out
		{`a(b|c*)`, `a(c*|b)`}, {`ab|ac*`, `ac*|ab`}, {`(ab|ac)d`, `(ac|ab)d`}, {`(a|bc)*`, `(bc|a)*`},
		{`~a&~b`, `~b&~a`}, {`~(a|b)`, `~[ab]`}, {`a*|b*`}, {`(a*b*)*`}, {`(a*|b)*`}, {`a*a*`}, {`a*a`}, {`()|a*`, `a*?`}, {`ba`}, {`ab`},
	} {
		number := table.termOf(list[0])
		if other, known := seen[number]; known {
			t.Errorf("%q has the term of %q", list[0], other)
		}
		seen[number] = list[0]
		for _, pattern := range list {
			if n := table.termOf(pattern); n != number {
				t.Errorf("%q has another term than %q", pattern, list[0])
			}
		}
	}
}

func TestFirstTerms(t *testing.T) {
	table := newTable()
	for pattern, want := range map[string]int{`[]`: none, ``: empty, `~[]`: every} {
		if number := table.termOf(pattern); number != want {
			t.Errorf("the term of %q is %d, want %d", pattern, number, want)
		}
	}
}

func TestBecomes(t *testing.T) {
	for _, c := range []struct {
		pattern string
		symbol  rune
		want    string
	}{
		{`a`, 'a', ``}, {`a`, 'b', `[]`}, {`[^a]`, 'a', `[]`}, {`.`, 0x10ffff, ``}, {``, 'a', `[]`}, {`[]`, 'a', `[]`},
		{`ab`, 'a', `b`}, {`ab`, 'b', `[]`}, {`a?b`, 'a', `b`}, {`a?b`, 'b', ``}, {`a*b`, 'a', `a*b`}, {`a*b`, 'b', ``}, {`a*ab`, 'a', `a*ab|b`},
		{`a*`, 'a', `a*`}, {`(ab)*`, 'a', `b(ab)*`}, {`(ab)*`, 'b', `[]`}, {`(a*b)*`, 'a', `a*b(a*b)*`}, {`(a*b)*`, 'b', `(a*b)*`},
		{`ab|ac`, 'a', `b|c`}, {`ab|ac*`, 'a', `b|c*`}, {`ab|c`, 'c', ``}, {`ab|c`, 'd', `[]`},
		{`ab&ac`, 'a', `[]`}, {`ab*&ac*`, 'a', `b*&c*`}, {`ab*&.`, 'a', `b*&()`}, {`.*&a`, 'a', `.*&()`},
		{`~a`, 'a', `~()`}, {`~a`, 'b', `~[]`}, {`~(ab)`, 'a', `~b`}, {`~[]`, 'a', `~[]`}, {`~()`, 'a', `~[]`}, {`~(~ab)`, 'a', `~(~()b)`},
		{`~ab`, 'a', `~()b`}, {`~ab`, 'b', `~[]b|()`}, {`a{3}`, 'a', `a{2}`}, {`a{1,3}`, 'a', `a{0,2}`}, {`a{2,}`, 'a', `a+`},
		{`(a|b)*a(a|b)`, 'a', `(a|b)*a(a|b)|[ab]`}, {`(a?b?)c`, 'b', `c`}, {`a?a?`, 'a', `a?|()`},
	} {
		table := newTable()
		if got, want := table.becomes(table.termOf(c.pattern), c.symbol), table.termOf(c.want); got != want {
			t.Errorf("%q does not become %q by %q", c.pattern, c.want, c.symbol)
		}
	}
}

func TestHasEmpty(t *testing.T) {
	for _, c := range []struct {
		has      bool
		patterns []string
	}{
		{true, []string{``, `a*`, `a?`, `a*b*`, `a|()`, `()|a*`, `a*&b*`, `~a`, `~[]`, `~(ab)`, `ab|b*|c`, `a*&~b&~c`, `~(a&b*)`}},
		{false, []string{`[]`, `a`, `.`, `ab`, `a*b`, `ab*`, `a|bc`, `a&b*`, `a*&b*&c`, `~()`, `~(a*)`, `a+`, `ab|bc|c`, `~(a|())`}},
	} {
		for _, pattern := range c.patterns {
			table := newTable()
			if table.terms[table.termOf(pattern)].hasEmpty != c.has {
				t.Errorf("%q has the empty word: %v", pattern, !c.has)
			}
		}
	}
}

func TestClasses(t *testing.T) {
	for _, c := range []struct {
		pattern string
		want    []rune
	}{
		{``, []rune{0}}, {`[]`, []rune{0}}, {`.*`, []rune{0}}, {`~[]`, []rune{0}},
		{`b`, []rune{0, 'b', 'c'}}, {`bx`, []rune{0, 'b', 'c'}}, {`b*x`, []rune{0, 'b', 'c', 'x', 'y'}}, {`b*`, []rune{0, 'b', 'c'}},
		{`bx|dx`, []rune{0, 'b', 'c', 'd', 'e'}}, {`b*&d*`, []rune{0, 'b', 'c', 'd', 'e'}}, {`~(b|dx)`, []rune{0, 'b', 'c', 'd', 'e'}},
		{`bx|[b-d]y|f`, []rune{0, 'b', 'c', 'e', 'f', 'g'}}, {`(bx|())(cx|())`, []rune{0, 'b', 'c', 'd'}},
	} {
		table := newTable()
		if got := table.classesOf(table.termOf(c.pattern)); !slices.Equal(got, c.want) {
			t.Errorf("%q tells apart %x, want %x", c.pattern, got, c.want)
		}
	}
}

// TestSymbolsNotToldApart: a term becomes the same by each symbol of a lot,
// and by the kind's own function just what it becomes by way of the table.
func TestSymbolsNotToldApart(t *testing.T) {
	table := newTable()
	for _, pattern := range []string{`a*[c-e]|~(cx|[d-f]*)`, `(a?[^b-d]?x)*&~(.e)`, `\w+&~(\d*)|\u{d7ff}`, `(.|[\u{d7ff}-\u{e000}]a){1,3}`} {
		work := []int{table.termOf(pattern)}
		for round := 0; round < len(work) && round < 40; round++ {
			k := table.terms[work[round]].key
			for _, symbol := range "\x00/09:@AZ[_`abcdefgxyz{\ud7fe\ud7ff\ue000\ue001\U0010ffff" {
				next := table.becomes(work[round], symbol)
				if next != table.kinds[k.kind].becomes(table, k, symbol) {
					t.Errorf("a remainder of %q becomes another by %q", pattern, symbol)
				}
				if !slices.Contains(work, next) {
					work = append(work, next)
				}
			}
		}
	}
}
