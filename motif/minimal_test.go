package motif_test

import (
	"math"
	"regexp"
	"slices"
	"strconv"
	"strings"
	"testing"

	"motif/motif"
)

type minimalCase struct {
	pattern string
	budget  int
	text    string
	err     motif.Errno
}

func wantMinimals(t *testing.T, cases []minimalCase) {
	t.Helper()
	for _, c := range cases {
		if text, err := motif.Minimal(c.pattern, c.budget); text != c.text || err != c.err {
			t.Errorf("Minimal(%.70q, %d) = %q, %d, want %q, %d", c.pattern, c.budget, text, err, c.text, c.err)
		}
	}
}

// wantAutomaton: one text for all patterns.
func wantAutomaton(t *testing.T, text string, patterns ...string) {
	t.Helper()
	for _, pattern := range patterns {
		wantMinimals(t, []minimalCase{{pattern, 200, text, motif.OK}})
	}
}

// wantSingle: the automaton of one symbol, by what is written of the state at
// which it begins.
func wantSingle(t *testing.T, spans string, patterns ...string) {
	t.Helper()
	wantAutomaton(t, "-"+spans+";-0-10ffff>1;+0-10ffff>1;", patterns...)
}

func TestMinimalExamples(t *testing.T) {
	wantMinimals(t, []minimalCase{
		{`a`, 200, "-0-60>1,61-61>2,62-10ffff>1;-0-10ffff>1;+0-10ffff>1;", motif.OK},
		{`[]`, 200, "-0-10ffff>0;", motif.OK},
		{`.*`, 200, "+0-10ffff>0;", motif.OK},
		{`~[]`, 200, "+0-10ffff>0;", motif.OK},
	})
}

func TestMinimalOfFewStates(t *testing.T) {
	wantAutomaton(t, "-0-10ffff>0;", `[]`, `a&b`, `[]a`, `a[]`, `a&~a`, `ab&~(ab)`, `~(.*)`, `~(a|~a)`, `a*&b+`, `(a|b)*&~((a*b*)*)`, `.*a.*&[^a]*`, `[]+`, `()&.`, `(aa)*&a(aa)*`)
	wantAutomaton(t, "+0-10ffff>0;", `.*`, `~[]`, `~(a&b)`, `a|~a`, `(.|..)*`, `.+|`, `[^a]*|.*a.*`, `~(ab&a)`, `~(a*)|a*`)
	wantAutomaton(t, "+0-10ffff>1;-0-10ffff>1;", ``, `()`, `|`, `&`, `a{0}`, `[]*`, `[]?`, `~(.+)`, `a*&b*`, `a?&b?`, `.*&~(.+)`, `(a|)&~a`)
	wantAutomaton(t, "-0-10ffff>1;+0-10ffff>1;", `.+`, `~()`, `..*`, `.*.`, `~(a{0})`, `.+.*`, `~(a?)|a`)
	wantAutomaton(t, "-0-10ffff>1;+0-10ffff>2;-0-10ffff>2;", `.`, `[^]`, `a|[^a]`, `~()&~(..+)`, `[\u{0}-\u{10ffff}]`)
	wantAutomaton(t, "+0-10ffff>1;-0-10ffff>0;", `(..)*`, `~(.(..)*)`, `(....)*|..(....)*`)
	wantAutomaton(t, "+0-60>1,61-61>0,62-10ffff>1;-0-10ffff>1;", `a*`, `a*a*`, `(a|aa)*`, `~(.*[^a].*)`, `a+|`, `(a?)*`, `a?a*`)
}

// TestMinimalNumbers: a state is numbered where it is met first, when the
// states are gone through from 0 on and by each the symbols from 0 on.
func TestMinimalNumbers(t *testing.T) {
	wantAutomaton(t, "-0-60>1,61-61>2,62-62>3,63-10ffff>1;-0-10ffff>1;-0-62>1,63-63>3,64-10ffff>1;+0-10ffff>1;", `b|ac`, `ac|b`)
	wantAutomaton(t, "-0-60>1,61-61>2,62-62>3,63-10ffff>1;-0-10ffff>1;-0-60>1,61-61>4,62-10ffff>1;+0-10ffff>1;-0-60>1,61-61>3,62-10ffff>1;", `aaa|b`, `b|aaa`)
	wantAutomaton(t, "-0-60>1,61-61>2,62-62>3,63-10ffff>1;-0-10ffff>1;-0-63>1,64-64>4,65-10ffff>1;-0-62>1,63-63>4,64-10ffff>1;+0-10ffff>1;", `bc|ad`, `ad|bc`)
	wantAutomaton(t, "-0-0>1,1-10ffff>2;-0-61>2,62-62>3,63-10ffff>2;-0-10ffff>2;+0-10ffff>2;", `\u{0}b`)
	wantAutomaton(t, "-0-0>1,1-1>2,2-10ffff>3;+0-10ffff>3;-0-1>3,2-2>1,3-10ffff>3;-0-10ffff>3;", `\u{0}|\u{1}\u{2}`, `\u{1}\u{2}|\u{0}`)
	wantAutomaton(t, "+0-60>1,61-61>2,62-62>3,63-10ffff>1;+0-10ffff>1;-0-10ffff>1;+0-62>1,63-63>2,64-10ffff>1;", `~(a|bc)`, `~a&~(bc)`)
	wantAutomaton(t, "-0-60>0,61-61>1,62-10ffff>0;-0-60>0,61-61>1,62-62>2,63-10ffff>0;+0-60>0,61-61>1,62-10ffff>0;", `.*ab`, `~(~[]&~(.*ab))`)
	wantAutomaton(t, "-0-62>1,63-63>2,64-10ffff>1;-0-10ffff>1;-0-60>1,61-61>3,62-62>4,63-10ffff>1;+0-61>1,62-62>5,63-10ffff>1;-0-61>1,62-62>3,63-10ffff>1;+0-10ffff>1;", `c(bb|a)b?`, `c(a|bb)|c(a|bb)b`)
}

// powerOfA is the automaton of so many a's.
func powerOfA(count int) string {
	text := "-0-60>1,61-61>2,62-10ffff>1;-0-10ffff>1;"
	for state := range count - 1 {
		text += "-0-60>1,61-61>" + strconv.Itoa(state+3) + ",62-10ffff>1;"
	}
	return text + "+0-10ffff>1;"
}

// TestMinimalDigits: of symbols hexadecimal ones, of states decimal ones.
func TestMinimalDigits(t *testing.T) {
	wantAutomaton(t, powerOfA(8), `a{8}`, `(aa){4}`)
	wantAutomaton(t, powerOfA(12), `a{12}`, `(aaa){4}`, `a*&.{12}`)
	wantAutomaton(t, powerOfA(60), `a{12}{5}`, `(a{5}){12}`)
	wantSingle(t, "0-7b>1,7c-7c>2,7d-10ffff>1", `\|`, `\u{7c}`)
	wantSingle(t, "0-9>1,a-a>2,b-10ffff>1", `\n`)
	wantSingle(t, "0-f>1,10-10>2,11-10ffff>1", `\u{10}`)
	wantSingle(t, "0-abcde>1,abcdf-abcdf>2,abce0-10ffff>1", `\u{abcdf}`)
}

func TestMinimalSpans(t *testing.T) {
	wantSingle(t, "0-60>1,61-64>2,65-10ffff>1", `[a-d]`, `[a-c]|d`, `a|b|c|d`, `[dbca]`, `[a-d]|[b-c]`, `[a-c]|[b-d]`)
	wantSingle(t, "0-60>1,61-61>2,62-62>1,63-63>2,64-10ffff>1", `[ac]`, `c|a`, `[a-c]&[^b]`, `[a-c]&~b`)
	wantSingle(t, "0-2f>1,30-39>2,3a-40>1,41-5a>2,5b-5e>1,5f-5f>2,60-60>1,61-7a>2,7b-10ffff>1", `\w`, `[\dA-Z_a-z]`)
	wantSingle(t, "0-2f>1,30-39>2,3a-10ffff>1", `\d`, `[0-9]`, `\w&[^A-Z_a-z]`)
	wantAutomaton(t, "-0-60>1,61-61>2,62-10ffff>1;+0-10ffff>2;-0-10ffff>2;", `[^a]`, `.&~a`)
	wantSingle(t, "0-60>1,61-62>2,63-63>1,64-10ffff>2", "[^\\u{0}-`c]", "[ab]|[^\\u{0}-c]")
}

// TestMinimalSpansAtTheEdges: symbols above 127, the first and the last one,
// and those beside the numbers that are no symbols.
func TestMinimalSpansAtTheEdges(t *testing.T) {
	wantAutomaton(t, "-0-0>1,1-10ffff>2;+0-10ffff>2;-0-10ffff>2;", `\u{0}`, `[^\u{1}-\u{10ffff}]`)
	wantSingle(t, "0-0>1,1-1>2,2-10ffff>1", `\u{1}`)
	wantSingle(t, "0-10fffe>1,10ffff-10ffff>2", `\u{10ffff}`, `[^\u{0}-\u{10fffe}]`)
	wantSingle(t, "0-10fffd>1,10fffe-10fffe>2,10ffff-10ffff>1", `\u{10fffe}`)
	wantSingle(t, "0-7f>1,80-10ffff>2", `[^\u{0}-\u{7f}]`, `[\u{80}-\u{10ffff}]`)
	wantSingle(t, "0-e8>1,e9-e9>2,ea-10ffff>1", `é`, `[é]`, `\u{e9}`)
	wantSingle(t, "0-65e4>1,65e5-65e5>2,65e6-10ffff>1", `日`)
	wantSingle(t, "0-1f5ff>1,1f600-1f600>2,1f601-10ffff>1", `😀`)
	wantSingle(t, "0-fffc>1,fffd-fffd>2,fffe-10ffff>1", "\xff", "\xc3", `\u{fffd}`, "[\xf0\xff]")
	wantSingle(t, "0-d7fe>1,d7ff-d7ff>2,e000-10ffff>1", `\u{d7ff}`, `[\u{d7ff}-\u{e000}]&~\u{e000}`)
	wantSingle(t, "0-d7ff>1,e000-e000>2,e001-10ffff>1", `\u{e000}`, `[\u{d7ff}-\u{e000}]&~\u{d7ff}`)
	wantSingle(t, "0-d7fe>1,d7ff-e000>2,e001-10ffff>1", `[\u{d7ff}-\u{e000}]`, `[\u{e000}\u{d7ff}]`, `\u{d7ff}|\u{e000}`)
	wantSingle(t, "0-d7fd>1,d7fe-d7fe>2,d7ff-e000>1,e001-e001>2,e002-10ffff>1", `[\u{d7fe}\u{e001}]`, `\u{e001}|\u{d7fe}`)
	wantSingle(t, "0-d7ff>1,e000-10ffff>2", `[^\u{0}-\u{d7ff}]`, `[\u{e000}-\u{10ffff}]`)
	wantAutomaton(t, "+0-d7ff>0,e000-10ffff>1;-0-10ffff>1;", `[\u{0}-\u{d7ff}]*`, `[^\u{e000}-\u{10ffff}]*`, `~(.*[\u{e000}-\u{10ffff}].*)`)
	wantAutomaton(t, "-0-d7ff>1,e000-10ffff>2;+0-10ffff>2;-0-10ffff>2;", `[\u{0}-\u{d7ff}]`)
	wantAutomaton(t, "+0-d7fe>0,d7ff-e000>1,e001-10ffff>0;-0-10ffff>1;", `[^\u{d7ff}\u{e000}]*`, `~(.*[\u{d7ff}-\u{e000}].*)`)
}

// TestMinimalJoinsRemainders: different terms with the same words are one
// state, and symbols that lead to them one span, if they are neighbours.
func TestMinimalJoinsRemainders(t *testing.T) {
	wantAutomaton(t, "-0-60>1,61-62>2,63-10ffff>1;-0-10ffff>1;-0-61>1,62-62>3,63-10ffff>1;+0-61>1,62-62>3,63-10ffff>1;", `ab*b|bb+`, `[ab]b+`, `(a|b)bb*`)
	wantAutomaton(t, "-0-60>1,61-61>2,62-62>1,63-63>2,64-10ffff>1;-0-10ffff>1;-0-61>1,62-62>3,63-10ffff>1;+0-61>1,62-62>3,63-10ffff>1;", `ab*b|cb+`, `[ac]b+`)
	wantAutomaton(t, "-0-d7fe>1,d7ff-e000>2,e001-10ffff>1;-0-10ffff>1;+0-61>1,62-62>2,63-10ffff>1;", `\u{d7ff}b*|\u{e000}(b+)?`, `[\u{d7ff}\u{e000}]b*`)
	wantAutomaton(t, "+0-60>1,61-62>0,63-10ffff>1;-0-10ffff>1;", `(a|b)*`, `(a*b*)*`, `[ab]*`, `~(.*[^ab].*)`, `(a*b)*a*`, `(a|bb*)*`, `(b*a)*b*`)
	wantAutomaton(t, "+0-61>0,62-62>1,63-10ffff>0;-0-10ffff>1;", `[^b]*`, `~(.*b.*)`, `.*&~(.*b.*)`, `([^b][^b])*[^b]?`)
	// The remainders are more than the states: a budget for those alone is too small.
	for _, pattern := range []string{`ab*b|cb+`, `(a*b)*a*`, `(aa|aaa)*|a`} {
		text, _ := motif.Minimal(pattern, 200)
		wantMinimals(t, []minimalCase{{pattern, strings.Count(text, ";"), "", motif.ErrBudget}})
	}
}

// TestMinimalTellsWordsApart: patterns have one text just if they have the same
// words.
func TestMinimalTellsWordsApart(t *testing.T) {
	families := [][]string{
		{`(a|b)*`, `(a*b*)*`, `[ab]*`, `(a*b)*a*`}, {`a{1,3}`, `a|aa|aaa`, `a(a(a|)|)`, `a+&~(a{4,})`}, {`(ab)*a`, `a(ba)*`}, {`~()`, `.+`, `..*`}, {`(..)*&(...)*`, `(.{6})*`}, {`[]`, `a&b`, `~(.*)`}, {`.*&~(.*b.*)`, `[^b]*`}, {`\d`, `[0-9]`}, {``, `()`}, {`.*`, `~[]`},
		{`a{2,4}`, `aa(a?){2}`, `a{2}a{0,2}`}, {`~(a|b)`, `~a&~b`}, {`~(a&a?)`, `~a|~(a?)`}, {`a(b|c)`, `ab|ac`}, {`.*a.*&.*b.*`, `.*(a.*b|b.*a).*`}, {`a`, `~~a`, `\u{61}`, `(a)`}, {`b`, `[a-c]&~a&~c`}, {`a|b`, `[ab]`}, {`é`, `\u{e9}`}, {`(a{2})*(a{3})*`, `~a&a*`, `(aa|aaa)*`}, {`.{2}`, `..`}, {`~(.{2})`, `.?|.{3,}`},
	}
	for i, family := range families {
		for k, others := range families {
			for _, pattern := range family {
				for _, other := range others {
					one, err := motif.Minimal(pattern, 200)
					two, otherErr := motif.Minimal(other, 200)
					same, word, sameErr := motif.Equal(pattern, other, 200)
					if (one == two) != (i == k) || same != (i == k) || err != motif.OK || otherErr != motif.OK || sameErr != motif.OK {
						t.Errorf("%q and %q: %q, %d and %q, %d; Equal: %v, %q, %d", pattern, other, one, err, two, otherErr, same, word, sameErr)
					}
				}
			}
		}
	}
}

func TestMinimalCountsOfStates(t *testing.T) {
	for _, c := range []struct {
		pattern string
		states  int
	}{
		{`(a|b)*a(a|b)`, 5}, {`(a|b)*a(a|b){2}`, 9}, {`(a|b)*a(a|b){6}`, 129}, {`.*a.{6}`, 128}, {`a{12}`, 14}, {`(a{5})*`, 6}, {`(.{12}){5}`, 62}, {`~(.*aba.*)`, 4}, {`.*a.*&.*b.*&.*c.*`, 8}, {`(a{3})*&(a{5})*&(a{11})*`, 166}, {`(.{4})*&(.{6})*`, 12}, {`(.{4})*|(.{6})*`, 12}, {`(a|b|c)(a|b|c)`, 4}, {`ab|cd`, 5}, {`ab|cb`, 4}, {`[ab]*a[ab]{3}`, 17},
	} {
		text, err := motif.Minimal(c.pattern, 200)
		if states := strings.Count(text, ";"); states != c.states || err != motif.OK {
			t.Errorf("Minimal(%q, 200) has %d states, %d, want %d", c.pattern, states, err, c.states)
		}
	}
}

func TestMinimalErrorsInTheirOrder(t *testing.T) {
	for _, budget := range []int{math.MinInt, -1, 0, 1, 200, 201, math.MaxInt} {
		wantMinimals(t, []minimalCase{
			{strings.Repeat("*", 61), budget, "", motif.ErrLong}, {strings.Repeat("a", 61), budget, "", motif.ErrLong}, {strings.Repeat("[]", 1<<23), budget, "", motif.ErrLong}, {strings.Repeat("[]", 30) + `(`, budget, "", motif.ErrLong},
			{`*`, budget, "", motif.ErrForm}, {`a(`, budget, "", motif.ErrForm}, {`a{13}`, budget, "", motif.ErrRange}, {`[b-a]`, budget, "", motif.ErrRange}, {strings.Repeat("(", 9), budget, "", motif.ErrDeep}, {strings.Repeat("a", 31), budget, "", motif.ErrBig},
		})
	}
	for _, budget := range []int{math.MinInt, -201, -1, 201, 202, math.MaxInt} {
		wantMinimals(t, []minimalCase{{`a`, budget, "", motif.ErrArg}, {``, budget, "", motif.ErrArg}, {`[]`, budget, "", motif.ErrArg}, {`(a|b)*a(a|b){9}`, budget, "", motif.ErrArg}})
	}
	wantMinimals(t, []minimalCase{{`a`, 0, "", motif.ErrBudget}, {``, 0, "", motif.ErrBudget}, {`[]`, 0, "", motif.ErrBudget}, {`.*`, 0, "", motif.ErrBudget}, {`(a|b)*a(a|b){9}`, 200, "", motif.ErrBudget}, {`.*a.{7}|`, 200, "", motif.ErrBudget}})
}

// TestMinimalBudgets: all remainders count, those with the same words too.
func TestMinimalBudgets(t *testing.T) {
	for pattern, remainders := range map[string]int{
		`[]`: 1, `a&b`: 1, `~[]`: 1, `.*`: 1, ``: 2, `a*`: 2, `~()`: 2, `a`: 3, `.`: 3, `x+`: 3, `~a`: 3, `(ab)*`: 3, `ab`: 4, `abc`: 5, `a{12}`: 14, `a&~a`: 3, `b|acde`: 6, `.*a.`: 4, `(a|b)*a(a|b){2}`: 9, `(.{12}){5}`: 62, `.*a.{6}`: 128, `ab*b|cb+`: 6,
	} {
		text, err := motif.Minimal(pattern, 200)
		if text == "" || err != motif.OK {
			t.Errorf("Minimal(%q, 200) = %q, %d", pattern, text, err)
		}
		wantMinimals(t, []minimalCase{
			{pattern, remainders, text, motif.OK}, {pattern, remainders + 1, text, motif.OK},
			{pattern, remainders - 1, "", motif.ErrBudget}, {pattern, 0, "", motif.ErrBudget}, {pattern, 201, "", motif.ErrArg}, {pattern, -1, "", motif.ErrArg},
		})
	}
	wantMinimals(t, []minimalCase{{`[]`, 1, "-0-10ffff>0;", motif.OK}, {`.*`, 1, "+0-10ffff>0;", motif.OK}, {`a`, 1, "", motif.ErrBudget}, {``, 1, "", motif.ErrBudget}})
}

func TestMinimalKeepsNothing(t *testing.T) {
	patterns := []string{`a*b`, `~(a*)`, `.*a.{3}`, `a&b`, `(`, `[b-a]`, `\w+`, strings.Repeat("a", 61), ``, `b|ab`, `ab|b`, `(a|b)*a(a|b){9}`, `~[]`}
	budgets := []int{-1, 0, 1, 2, 5, 200, 201}
	var first []minimalCase
	for _, pattern := range patterns {
		for _, budget := range budgets {
			text, err := motif.Minimal(pattern, budget)
			first = append(first, minimalCase{pattern, budget, text, err})
		}
	}
	for range 3 {
		slices.Reverse(first)
		wantMinimals(t, first)
	}
}

// TestMinimalOnAllTexts: patterns of all sorts, right and wrong ones: the
// errors are those of Check, the form of an answer is the document's, and those
// with one text have the same words.
func TestMinimalOnAllTexts(t *testing.T) {
	form := regexp.MustCompile(`^([+-]0(-[0-9a-f]+>[0-9]+,[0-9a-f]+)*-10ffff>[0-9]+;)+$`)
	firsts := map[string]string{}
	before, textBefore := `[]`, "-0-10ffff>0;"
	eachText([]string{"a", "\xff", ".", "|", "&", "~", "*", "{2}", "(", ")", "[^", "]"}, 4, func(pattern string) {
		want, _ := motif.Check(pattern)
		text, err := motif.Minimal(pattern, 200)
		if err != want || err == motif.OK && !form.MatchString(text) || err != motif.OK && text != "" {
			t.Fatalf("Minimal(%q, 200) = %q, %d, but Check tells %d", pattern, text, err, want)
		}
		if err != motif.OK {
			return
		}
		if _, known := firsts[text]; !known {
			firsts[text] = pattern
		}
		if same, word, _ := motif.Equal(firsts[text], pattern, 200); !same {
			t.Fatalf("%q and %q have one text, but just one has the word %q", firsts[text], pattern, word)
		}
		if same, _, _ := motif.Equal(before, pattern, 200); same != (text == textBefore) {
			t.Fatalf("%q and %q: %v, but the texts are %q and %q", before, pattern, same, textBefore, text)
		}
		before, textBefore = pattern, text
	})
	if len(firsts) < 50 {
		t.Errorf("%d texts", len(firsts))
	}
}
