package motif_test

import (
	"math"
	"slices"
	"strings"
	"testing"

	"motif/motif"
)

type emptyCase struct {
	pattern string
	budget  int
	empty   bool
	word    string
	err     motif.Errno
}

func wantEmpties(t *testing.T, cases []emptyCase) {
	t.Helper()
	for _, c := range cases {
		if empty, word, err := motif.Empty(c.pattern, c.budget); empty != c.empty || word != c.word || err != c.err {
			t.Errorf("Empty(%.70q, %d) = %v, %q, %d, want %v, %q, %d", c.pattern, c.budget, empty, word, err, c.empty, c.word, c.err)
		}
	}
}

// pairCase is a call of Includes or Equal.
type pairCase struct {
	pattern, other string
	budget         int
	yes            bool
	word           string
	err            motif.Errno
}

func wantIncludes(t *testing.T, cases []pairCase) {
	t.Helper()
	for _, c := range cases {
		if yes, word, err := motif.Includes(c.pattern, c.other, c.budget); yes != c.yes || word != c.word || err != c.err {
			t.Errorf("Includes(%.70q, %.70q, %d) = %v, %q, %d, want %v, %q, %d", c.pattern, c.other, c.budget, yes, word, err, c.yes, c.word, c.err)
		}
	}
}

func wantEquals(t *testing.T, cases []pairCase) {
	t.Helper()
	for _, c := range cases {
		if yes, word, err := motif.Equal(c.pattern, c.other, c.budget); yes != c.yes || word != c.word || err != c.err {
			t.Errorf("Equal(%.70q, %.70q, %d) = %v, %q, %d, want %v, %q, %d", c.pattern, c.other, c.budget, yes, word, err, c.yes, c.word, c.err)
		}
	}
}

// wantLeast: the pattern's least word.
func wantLeast(t *testing.T, pattern, word string) {
	t.Helper()
	wantEmpties(t, []emptyCase{{pattern, 200, false, word, motif.OK}})
}

func TestCompareExamples(t *testing.T) {
	wantEmpties(t, []emptyCase{
		{`a&b`, 1, true, "", motif.OK},
		{`a&~a`, 200, true, "", motif.OK},
		{`[]`, 200, true, "", motif.OK},
		{`~()`, 200, false, "\x00", motif.OK},
		{`x+`, 200, false, "x", motif.OK},
	})
	wantIncludes(t, []pairCase{
		{`ab|ac`, `a.`, 200, true, "", motif.OK},
		{`a.`, `ab|ac`, 200, false, "a\x00", motif.OK},
	})
	wantEquals(t, []pairCase{
		{`(a|b)*`, `(a*b*)*`, 200, true, "", motif.OK},
		{`a*`, `a+`, 200, false, "", motif.OK},
	})
}

func TestEmptyWithoutWords(t *testing.T) {
	for _, pattern := range []string{
		`[]`, `a&b`, `[]a`, `a[]`, `[]+`, `[]{3}`, `[]|[]`, `[]a|b[]`, `a&~a`, `ab&~(ab)`, `ab&a`, `a*&b+`, `a+&b+`, `~(.*)`, `~(~[])`, `~(a|~a)`, `a*&~(a*)`, `()&a`, `()&.+`, `&a`, `(aa)*&a(aa)*`, `.{3}&.{4,}`,
		`.*a.*&[^a]*`, `[a-c]&[d-f]`, `\d&[^\d]`, `\d+&~(\w*)`, `[^\u{0}-\u{10ffff}]`, `~(\u{0}|[^\u{0}])&.`, `(a|b)*&~((a*b*)*)`, `(a&b)(c|d)*`, `~[]&[]`, `((a&b)c)*&.`,
	} {
		wantEmpties(t, []emptyCase{{pattern, 200, true, "", motif.OK}})
	}
}

func TestEmptyWithTheEmptyWord(t *testing.T) {
	for _, pattern := range []string{
		``, `()`, `|`, `&`, `a*`, `a?`, `a{0}`, `a{0,3}`, `a*b*`, `|a`, `a|`, `[]*`, `[]?`, `~a`, `~[]`, `~(a+)`, `.*`, `~(.+)`, `a*&b*`, `(a|b)*`, `~~()`, `~.&~(..)`, `a{0,12}`, `(ab|c|)`,
	} {
		wantLeast(t, pattern, "")
	}
}

func TestEmptyWithEveryWord(t *testing.T) {
	for _, pattern := range []string{`.*`, `~[]`, `~(a&b)`, `a|~a`, `(.|..)*`, `.+|()`, `[^a]*|.*a.*`, `~(ab&a)`} {
		wantLeast(t, pattern, "")
		wantIncludes(t, []pairCase{{`.*`, pattern, 200, true, "", motif.OK}, {pattern, `~[]`, 200, true, "", motif.OK}})
		wantEquals(t, []pairCase{{pattern, `~[]`, 200, true, "", motif.OK}, {`.*`, pattern, 200, true, "", motif.OK}, {pattern, `.+`, 200, false, "", motif.OK}, {`~()`, pattern, 200, false, "", motif.OK}})
	}
}

// TestLeastWordOfFewestSymbols: a shorter word is less, whatever its symbols.
func TestLeastWordOfFewestSymbols(t *testing.T) {
	for pattern, word := range map[string]string{
		`a`: "a", `abc`: "abc", `x+`: "x", `x{3}`: "xxx", `x{3,}`: "xxx", `x{2,4}`: "xx", `aa|b`: "b", `aaa|bb|a{4}`: "bb", `\u{0}\u{0}|\u{10ffff}`: "\U0010ffff", `ba|ab|c{3}`: "ab", `é|a.`: "é", `a.|日`: "日", `😀|aa`: "😀",
		`(..)+&(...)+`: "\x00\x00\x00\x00\x00\x00", `(a{4})+&(a{6})+`: "aaaaaaaaaaaa", `~(.{0,4})`: "\x00\x00\x00\x00\x00", `.*a.*&.*b.*&.*c.*`: "abc", `.*abc.*&.*cab.*`: "cabc", `.*ab.*&.*ba.*`: "aba",
		`.*b&a.*`: "ab", `[^a]*a[^a]*&...`: "\x00\x00a", `~(a*)&a.*`: "a\x00", `~(.{0,2}|b.*)&.{3}`: "\x00\x00\x00", `(.{12}){5}`: strings.Repeat("\x00", 60), `a{12}{2}b`: strings.Repeat("a", 24) + "b",
	} {
		wantLeast(t, pattern, word)
	}
}

// TestLeastWordFirstInOrder: of words with as many symbols the first symbol
// that differs tells, by its number and not by how the pattern is written.
func TestLeastWordFirstInOrder(t *testing.T) {
	for pattern, word := range map[string]string{
		`b|a`: "a", `[ba]`: "a", `[cb]|d`: "b", `[b-d][b-d]`: "bb", `ba|ab`: "ab", `bc|bb|cb`: "bb", `abz|aca`: "abz", `az|ba`: "az", `zb|za|zab`: "za", `b[^b]|b{2}`: "b\x00", `[x-za]|b`: "a", `~(a|b|)&[a-z]`: "c", `a.&~(a[\u{0}-b])`: "ac",
		`.`: "\x00", `[^\u{0}]`: "\x01", `[^\u{0}-a]`: "b", `~(\u{0}|)&.?`: "\x01", `~()&~.`: "\x00\x00", `\w`: "0", `\d`: "0", `[^\d]`: "\x00", `\w&[^\d]`: "A", `\w&[^\dA-Z]`: "_", `\w&[^\d_A-Z]`: "a", `\n|\.`: "\n", `[\n ]|\u{9}`: "\t",
		`b.|c.|ac`: "ac", `(b|a)(b|a)&~(aa)`: "ab", `(b|a)(b|a)&~(a.)`: "ba", `(ca|b).&(b|c).`: "b\x00", `(b|a){3}&.*b.*`: "aab",
	} {
		wantLeast(t, pattern, word)
	}
}

// TestLeastWordAtTheEdges: symbols above 127, and those at the numbers that
// are no symbols.
func TestLeastWordAtTheEdges(t *testing.T) {
	for pattern, word := range map[string]string{
		`[\u{7f}-\u{80}]`: "\x7f", `[^\u{0}-\u{7f}]`: "\u0080", `[^\u{0}-\u{7ff}]`: "\u0800", `[^\u{0}-\u{ffff}]`: "\U00010000", `é|è`: "è", `[à-ÿ]é`: "àé", `[^\u{0}-é]`: "ê", `日|本|😀`: "日", `😀|😁`: "😀", `(日|é)(本|😀)`: "é本",
		`\u{d7ff}`: "\ud7ff", `\u{e000}`: "\ue000", `[\u{e000}\u{d7ff}]`: "\ud7ff", `[\u{d7ff}\u{e000}]{2}`: "\ud7ff\ud7ff", `[^\u{0}-\u{d7fe}]`: "\ud7ff", `[^\u{0}-\u{d7ff}]`: "\ue000", `[^\u{0}-\u{e000}]`: "\ue001", `[\u{d7ff}-\u{e000}]&~\u{d7ff}`: "\ue000",
		`~([\u{0}-\u{d7ff}]|)&.?`: "\ue000", `[^\u{0}-\u{d7ff}]{2}`: "\ue000\ue000", `\u{10ffff}`: "\U0010ffff", `[\u{10fffe}-\u{10ffff}]`: "\U0010fffe", `[^\u{0}-\u{10fffe}]`: "\U0010ffff", `[\u{fffd}\u{fffe}]`: "\ufffd", "\xff": "\ufffd", "\xc3|\ufffc": "\ufffc", `[^\u{0}-\u{fffc}]`: "\ufffd",
	} {
		wantLeast(t, pattern, word)
	}
	wantEmpties(t, []emptyCase{
		{`[^\u{0}-\u{d7ff}]&[^\u{e000}-\u{10ffff}]`, 1, true, "", motif.OK}, {`[^\u{0}-\u{d7ff}\u{e000}-\u{10ffff}]`, 1, true, "", motif.OK}, {`[^\u{0}-\u{10ffff}]`, 1, true, "", motif.OK},
	})
	wantIncludes(t, []pairCase{{`.`, `[\u{0}-\u{d7ff}]`, 200, false, "\ue000", motif.OK}, {`.`, `[\u{e000}-\u{10ffff}]`, 200, false, "\x00", motif.OK}, {`.`, `[\u{0}-\u{d7ff}]|[\u{e000}-\u{10ffff}]`, 200, true, "", motif.OK}, {`.`, `[\u{0}-\u{10fffe}]`, 200, false, "\U0010ffff", motif.OK}})
	wantEquals(t, []pairCase{{`[\u{d7ff}\u{e000}]`, `[\u{d7ff}-\u{e000}]`, 200, true, "", motif.OK}, {"\xff", `\u{fffd}`, 200, true, "", motif.OK}, {`[\u{0}-\u{e000}]`, `[\u{0}-\u{d7ff}]`, 200, false, "\ue000", motif.OK}})
}

// TestPairs: what Includes tells both ways round, and Equal.
func TestPairs(t *testing.T) {
	const yes = "yes"
	for _, c := range []struct{ one, two, oneInTwo, twoInOne, equal string }{
		{`a`, `a`, yes, yes, yes}, {``, `()`, yes, yes, yes}, {`[]`, `[]`, yes, yes, yes}, {`[]`, `a&b`, yes, yes, yes}, {`~[]`, `.*`, yes, yes, yes}, {`a(ba)*`, `(ab)*a`, yes, yes, yes}, {`(..)*&(...)*`, `(......)*`, yes, yes, yes}, {`~(a|b)`, `~a&~b`, yes, yes, yes}, {`~(a&b*)`, `~a|~(b*)`, yes, yes, yes}, {`a{2,4}`, `aa(a?){2}`, yes, yes, yes}, {`(a|b)*`, `(a*b)*a*`, yes, yes, yes}, {`a(b|c)`, `ab|ac`, yes, yes, yes}, {`~(.*b.*)`, `[^b]*`, yes, yes, yes}, {`[^a]`, `.&~a`, yes, yes, yes},
		{`[]`, `a`, yes, "a", "a"}, {`[]`, ``, yes, "", ""}, {``, `a`, "", "a", ""}, {`a`, `a?`, yes, "", ""}, {`a*`, `a+`, "", yes, ""}, {`a`, `b`, "a", "b", "a"}, {`b`, `aa`, "b", "aa", "b"}, {`aa`, `ab`, "aa", "ab", "aa"}, {`(aa)*`, `(aaa)*`, "aa", "aaa", "aa"}, {`a{2}`, `a{3}`, "aa", "aaa", "aa"}, {`a{2,}`, `a{3,}`, "aa", yes, "aa"}, {`~a`, `a`, "", "a", ""}, {`~a`, `~b`, "b", "a", "a"}, {`.*`, `a*`, "\x00", yes, "\x00"}, {`[^a]`, `.`, yes, "a", "a"}, {`\d`, `\w`, yes, "A", "A"}, {`é|z`, `[a-z]`, "é", "a", "a"}, {`日`, `é`, "日", "é", "é"}, {`.*ab.*`, `.*a.*&.*b.*`, yes, "ba", "ba"}, {`~(ab)`, `~(ba)`, "ba", "ab", "ab"}, {`a.`, `.b`, "a\x00", "\x00b", "\x00b"}, {`(a|b)*a`, `a(a|b)*`, "ba", "ab", "ab"}, {`\u{10ffff}`, `aa`, "\U0010ffff", "aa", "\U0010ffff"},
	} {
		for _, one := range []struct{ pattern, other, in string }{{c.one, c.two, c.oneInTwo}, {c.two, c.one, c.twoInOne}} {
			wantIncludes(t, []pairCase{{one.pattern, one.other, 200, one.in == yes, strings.TrimPrefix(one.in, yes), motif.OK}})
			wantEquals(t, []pairCase{{one.pattern, one.other, 200, c.equal == yes, strings.TrimPrefix(c.equal, yes), motif.OK}})
		}
	}
}

func TestEmptyErrorsInTheirOrder(t *testing.T) {
	for _, budget := range []int{math.MinInt, -1, 0, 1, 200, 201, math.MaxInt} {
		wantEmpties(t, []emptyCase{
			{strings.Repeat("*", 61), budget, false, "", motif.ErrLong}, {strings.Repeat("a", 61), budget, false, "", motif.ErrLong}, {strings.Repeat("[]", 1<<23), budget, false, "", motif.ErrLong},
			{`*`, budget, false, "", motif.ErrForm}, {`a(`, budget, false, "", motif.ErrForm}, {`a{13}`, budget, false, "", motif.ErrRange}, {strings.Repeat("(", 9), budget, false, "", motif.ErrDeep}, {strings.Repeat("a", 31), budget, false, "", motif.ErrBig}, {strings.Repeat("[]", 30) + `(`, budget, false, "", motif.ErrLong},
		})
	}
	for _, budget := range []int{math.MinInt, -201, -1, 201, 202, math.MaxInt} {
		wantEmpties(t, []emptyCase{{`a`, budget, false, "", motif.ErrArg}, {``, budget, false, "", motif.ErrArg}, {`[]`, budget, false, "", motif.ErrArg}, {`(a|b)*a(a|b){9}`, budget, false, "", motif.ErrArg}})
	}
	wantEmpties(t, []emptyCase{{`a`, 0, false, "", motif.ErrBudget}, {``, 0, false, "", motif.ErrBudget}, {`[]`, 0, false, "", motif.ErrBudget}, {`.*`, 0, false, "", motif.ErrBudget}})
}

func TestPairErrorsInTheirOrder(t *testing.T) {
	// Each comes ahead of those behind it, on whichever side.
	wrong := []struct {
		pattern string
		err     motif.Errno
	}{{`*`, motif.ErrForm}, {`a{13}`, motif.ErrRange}, {strings.Repeat("(", 9), motif.ErrDeep}, {strings.Repeat("a", 31), motif.ErrBig}}
	right := []string{``, `a`, `[]`, strings.Repeat("é", 30), `.*`}
	want := func(pattern, other string, budget int, err motif.Errno) {
		t.Helper()
		wantIncludes(t, []pairCase{{pattern, other, budget, false, "", err}})
		wantEquals(t, []pairCase{{pattern, other, budget, false, "", err}})
	}
	for _, budget := range []int{math.MinInt, -1, 0, 1, 200, 201, math.MaxInt} {
		for _, long := range []string{strings.Repeat("*", 61), strings.Repeat("a", 61), strings.Repeat("[]", 1<<20)} {
			for _, other := range append([]string{`*`, `a{13}`, long}, right...) {
				want(long, other, budget, motif.ErrLong)
				want(other, long, budget, motif.ErrLong)
			}
		}
		for _, first := range wrong {
			for _, second := range wrong {
				want(first.pattern, second.pattern, budget, first.err)
			}
			for _, other := range []string{``, `a`, `[]`, `.*`} {
				want(first.pattern, other, budget, first.err)
				want(other, first.pattern, budget, first.err)
			}
		}
	}
	for _, pattern := range []string{``, `a`, `[]`, `(a|b)*a(a|b){9}`} {
		for _, other := range []string{``, `b`, `[]`, `.*`} {
			for _, budget := range []int{math.MinInt, -201, -1, 201, 202, math.MaxInt} {
				want(pattern, other, budget, motif.ErrArg)
				want(other, pattern, budget, motif.ErrArg)
			}
			want(pattern, other, 0, motif.ErrBudget)
			want(other, pattern, 0, motif.ErrBudget)
		}
	}
}

// TestEmptyBudgets: all remainders count, those behind the least word too.
func TestEmptyBudgets(t *testing.T) {
	for _, c := range []struct {
		pattern    string
		remainders int
		empty      bool
		word       string
	}{
		{`[]`, 1, true, ""}, {`a&b`, 1, true, ""}, {`~[]`, 1, false, ""}, {`.*`, 1, false, ""}, {``, 2, false, ""}, {`a*`, 2, false, ""}, {`~()`, 2, false, "\x00"}, {`a`, 3, false, "a"}, {`.`, 3, false, "\x00"}, {`x+`, 3, false, "x"}, {`~a`, 3, false, ""}, {`(ab)*`, 3, false, ""}, {`a|b`, 3, false, "a"},
		{`ab`, 4, false, "ab"}, {`abc`, 5, false, "abc"}, {`a{12}`, 14, false, "aaaaaaaaaaaa"}, {`a?`, 3, false, ""}, {`ab|cd`, 5, false, "ab"}, {`ab|cb`, 4, false, "ab"}, {`b|acde`, 6, false, "b"}, {`|abcde`, 7, false, ""},
		{`a&~a`, 3, true, ""}, {`(a|b)*a(a|b)`, 5, false, "aa"}, {`(a|b)*a(a|b){2}`, 9, false, "aaa"}, {`.*a.`, 4, false, "a\x00"}, {`a[\u{d7ff}-\u{e000}]|b(\u{d7ff}|\u{e000})`, 4, false, "a\ud7ff"}, {`(.{12}){5}`, 62, false, strings.Repeat("\x00", 60)},
		{`.*a.{5}`, 64, false, "a\x00\x00\x00\x00\x00"}, {`.*a.{6}`, 128, false, "a\x00\x00\x00\x00\x00\x00"},
	} {
		wantEmpties(t, []emptyCase{
			{c.pattern, c.remainders, c.empty, c.word, motif.OK}, {c.pattern, c.remainders + 1, c.empty, c.word, motif.OK}, {c.pattern, 200, c.empty, c.word, motif.OK},
			{c.pattern, c.remainders - 1, false, "", motif.ErrBudget}, {c.pattern, 0, false, "", motif.ErrBudget}, {c.pattern, 201, false, "", motif.ErrArg}, {c.pattern, -1, false, "", motif.ErrArg},
		})
	}
	wantEmpties(t, []emptyCase{{`(a|b)*a(a|b){9}`, 200, false, "", motif.ErrBudget}, {`.*a.{7}|`, 200, false, "", motif.ErrBudget}})
}

// TestPairBudgets: the remainders of one term that is made of both.
func TestPairBudgets(t *testing.T) {
	for _, c := range []struct {
		pattern, other  string
		includes, equal int
	}{
		{`[]`, `[]`, 1, 1}, {`[]`, `a`, 1, 3}, {`a`, `[]`, 3, 3}, {`a`, `~[]`, 1, 3}, {`.*`, `~[]`, 1, 1}, {`a`, `b`, 3, 3}, {`a`, `a`, 3, 3}, {``, ``, 2, 2}, {``, `[]`, 2, 2}, {`~[]`, `[]`, 1, 1}, {`~a`, `~[]`, 1, 3}, {`~[]`, `~a`, 3, 3},
		{`ab`, `a`, 4, 4}, {`a`, `ab`, 3, 4}, {`a*`, `b*`, 3, 4}, {`b*`, `a*`, 3, 4},
	} {
		includes, wordOne, _ := motif.Includes(c.pattern, c.other, 200)
		equal, wordTwo, _ := motif.Equal(c.pattern, c.other, 200)
		wantIncludes(t, []pairCase{{c.pattern, c.other, c.includes, includes, wordOne, motif.OK}, {c.pattern, c.other, c.includes - 1, false, "", motif.ErrBudget}, {c.pattern, c.other, 0, false, "", motif.ErrBudget}})
		wantEquals(t, []pairCase{{c.pattern, c.other, c.equal, equal, wordTwo, motif.OK}, {c.pattern, c.other, c.equal - 1, false, "", motif.ErrBudget}, {c.pattern, c.other, 0, false, "", motif.ErrBudget}})
	}
}

// TestComparisonsKeepNothing: each call answers the same whatever was asked
// before, and answers that refuse leave nothing behind.
func TestComparisonsKeepNothing(t *testing.T) {
	type answer struct {
		empty, includes, equal bool
		words                  [3]string
		errs                   [3]motif.Errno
	}
	ask := func(pattern, other string, budget int) (a answer) {
		a.empty, a.words[0], a.errs[0] = motif.Empty(pattern, budget)
		a.includes, a.words[1], a.errs[1] = motif.Includes(pattern, other, budget)
		a.equal, a.words[2], a.errs[2] = motif.Equal(pattern, other, budget)
		return a
	}
	patterns := []string{`a*b`, `~(a*)`, `.*a.{3}`, `a&b`, `(`, `[b-a]`, `\w+`, strings.Repeat("a", 61), ``, `b|ab`, `(a|b)*a(a|b){9}`, `~[]`}
	budgets := []int{0, 2, 5, 200, 201}
	var first []answer
	for _, pattern := range patterns {
		for _, other := range patterns {
			for _, budget := range budgets {
				first = append(first, ask(pattern, other, budget))
			}
		}
	}
	for round := range 3 {
		at := len(first) - 1
		for _, pattern := range slices.Backward(patterns) {
			for _, other := range slices.Backward(patterns) {
				for _, budget := range slices.Backward(budgets) {
					if again := ask(pattern, other, budget); again != first[at] {
						t.Errorf("round %d: %.20q, %.20q, %d: %v, and before %v", round, pattern, other, budget, again, first[at])
					}
					at--
				}
			}
		}
	}
}

// TestComparisonsOnAllTexts: patterns of all sorts, right and wrong ones: the
// errors are those of Check, and what the calls answer goes together.
func TestComparisonsOnAllTexts(t *testing.T) {
	eachText([]string{"a", "\xff", ".", "|", "&", "~", "*", "{2}", "(", ")", "[^", "]"}, 4, func(pattern string) {
		want, _ := motif.Check(pattern)
		empty, word, err := motif.Empty(pattern, 200)
		none, _, noneErr := motif.Includes(pattern, `[]`, 200)
		same, _, sameErr := motif.Equal(`[]`, pattern, 200)
		if err != want || noneErr != want || sameErr != want || empty != none || empty != same {
			t.Fatalf("%q: %v, %d; %v, %d; %v, %d, but Check tells %d", pattern, empty, err, none, noneErr, same, sameErr, want)
		}
		if (empty || err != motif.OK) && word != "" || empty && err != motif.OK {
			t.Fatalf("%q: %v, %q, %d", pattern, empty, word, err)
		}
		if matched, _ := motif.Match(pattern, word, 200); err == motif.OK && !empty && !matched {
			t.Fatalf("%q: %q is no word", pattern, word)
		}
		if itself, word, err := motif.Equal(pattern, pattern, 200); err == motif.OK && !itself {
			t.Fatalf("%q is not equal to itself: %q", pattern, word)
		}
	})
}
