package motif_test

import (
	"math"
	"slices"
	"strings"
	"testing"

	"motif/motif"
)

type matchCase struct {
	pattern, text string
	budget        int
	matched       bool
	err           motif.Errno
}

func wantMatches(t *testing.T, cases []matchCase) {
	t.Helper()
	for _, c := range cases {
		if matched, err := motif.Match(c.pattern, c.text, c.budget); matched != c.matched || err != c.err {
			t.Errorf("Match(%.70q, %.70q, %d) = %v, %d, want %v, %d", c.pattern, c.text, c.budget, matched, err, c.matched, c.err)
		}
	}
}

// wantWords: all texts of the first list are words, none of the second is.
func wantWords(t *testing.T, pattern string, words, others []string) {
	t.Helper()
	for _, text := range words {
		wantMatches(t, []matchCase{{pattern, text, 200, true, motif.OK}})
	}
	for _, text := range others {
		wantMatches(t, []matchCase{{pattern, text, 200, false, motif.OK}})
	}
}

func TestMatchExamples(t *testing.T) {
	wantMatches(t, []matchCase{
		{`a*b`, `aab`, 2, true, motif.OK},
		{`a*b`, `aab`, 1, false, motif.ErrBudget},
		{`~(a*)`, `aab`, 2, true, motif.OK},
		{`~(a*)`, `aab`, 1, false, motif.ErrBudget},
		{`.`, "\xff", 200, true, motif.OK},
		{`\u{fffd}`, "\xff", 200, true, motif.OK},
		{`.{2}`, `é`, 200, false, motif.OK},
		{`a&b`, ``, 1, false, motif.OK},
	})
}

func TestMatchHowPartsBind(t *testing.T) {
	wantWords(t, `ab*`, []string{"a", "abb"}, []string{"", "abab"})
	wantWords(t, `~a*`, []string{"b", "ab"}, []string{"", "a", "aa"})
	wantWords(t, `(~a)*`, []string{"", "a b", "aa", "b"}, []string{"a"})
	wantWords(t, `~ab`, []string{"b", "xb", "aab"}, []string{"", "a", "ab", "ba"})
	wantWords(t, `a~bc`, []string{"ac", "axc", "abbc"}, []string{"abc", "a", "c"})
	wantWords(t, `ab&a.|c`, []string{"ab", "c"}, []string{"a", "b", "ac", "abc"})
	wantWords(t, `a|b&c`, []string{"a"}, []string{"b", "c", ""})
	wantWords(t, `a&b|c`, []string{"c"}, []string{"a", "b", ""})
	wantWords(t, `~a&~b`, []string{"", "c", "ab"}, []string{"a", "b"})
	wantWords(t, `~a|a`, []string{"", "a", "b", "aa"}, nil)
	wantWords(t, `~~a`, []string{"a"}, []string{"", "b", "aa"})
	wantWords(t, `~~~a`, []string{"", "b", "aa"}, []string{"a"})
	wantWords(t, `a{2}*`, []string{"", "aa", "aaaa"}, []string{"a", "aaa"})
	wantWords(t, `a*{2}`, []string{"", "a", "aa", "aaa"}, []string{"b"})
}

func TestMatchEmptyRows(t *testing.T) {
	for _, pattern := range []string{``, `()`, `&`, `|`, `a{0}`, `a{0,0}`, `[]*`, `[]?`, `(|)&`} {
		wantWords(t, pattern, []string{""}, []string{"a", "\x00", " "})
	}
	wantWords(t, `|a`, []string{"", "a"}, []string{"b", "aa"})
	wantWords(t, `a|`, []string{"", "a"}, []string{"b", "aa"})
	wantWords(t, `&a`, nil, []string{"", "a"})
	wantWords(t, `&a*`, []string{""}, []string{"a"})
	wantWords(t, `[]`, nil, []string{"", "a", "[]"})
	wantWords(t, `~[]`, []string{"", "a", "\xff"}, nil)
	wantWords(t, `~()`, []string{"a", "ab"}, []string{""})
}

func TestMatchRepeats(t *testing.T) {
	const infinite = 99
	for _, c := range []struct {
		repeat      string
		least, most int
	}{
		{`*`, 0, infinite}, {`+`, 1, infinite}, {`?`, 0, 1},
		{`{0}`, 0, 0}, {`{1}`, 1, 1}, {`{3}`, 3, 3}, {`{12}`, 12, 12},
		{`{0,}`, 0, infinite}, {`{1,}`, 1, infinite}, {`{3,}`, 3, infinite}, {`{12,}`, 12, infinite},
		{`{0,0}`, 0, 0}, {`{0,1}`, 0, 1}, {`{0,3}`, 0, 3}, {`{1,1}`, 1, 1}, {`{2,5}`, 2, 5}, {`{9,12}`, 9, 12}, {`{10,11}`, 10, 11},
	} {
		for n := range 16 {
			matched := c.least <= n && n <= c.most
			wantMatches(t, []matchCase{
				{`a` + c.repeat, strings.Repeat("a", n), 200, matched, motif.OK},
				{`(ab)` + c.repeat, strings.Repeat("ab", n), 200, matched, motif.OK},
				{`a` + c.repeat, strings.Repeat("a", n) + "b", 200, false, motif.OK},
				{`~a` + c.repeat, strings.Repeat("a", n), 200, !matched, motif.OK},
			})
		}
	}
}

func TestMatchEscapes(t *testing.T) {
	for _, sign := range strings.Split(`| & ~ * + ? { } [ ] ( ) . \ ^ -`, " ") {
		wantWords(t, `\`+sign, []string{sign}, []string{"", `\` + sign, "a", sign + sign})
		wantWords(t, `[\`+sign+`]`, []string{sign}, []string{"", `\` + sign, "a"})
	}
	wantWords(t, `\n`, []string{"\n"}, []string{"n", `\n`, "\r"})
	wantWords(t, `[\n]`, []string{"\n"}, []string{"n", `\`})
	wantWords(t, `\u{0}`, []string{"\x00"}, []string{"", "0"})
	wantWords(t, `\u{e9}\u{0000e9}`, []string{"éé"}, []string{"é", "ee"})
	wantWords(t, `\u{10ffff}`, []string{"\U0010ffff"}, []string{"\ufffd", "\U0010fffe"})
	wantWords(t, `\u{abc}`, []string{"\u0abc"}, []string{"abc"})
	wantWords(t, `^-,`, []string{"^-,"}, []string{"-,", ","})
}

// TestMatchSetsByEachByte goes through all texts of one ASCII symbol.
func TestMatchSetsByEachByte(t *testing.T) {
	letters := "abcdefghijklmnopqrstuvwxyz"
	word := "0123456789" + strings.ToUpper(letters) + "_" + letters
	for _, c := range []struct{ pattern, has string }{
		{`\d`, "0123456789"}, {`[\d]`, "0123456789"}, {`\w`, word}, {`[\w]`, word}, {`[\d\w]`, word}, {`[\-]`, "-"},
		{`[a-c]`, "abc"}, {`[ca-b]`, "abc"}, {`[a-a]`, "a"}, {`[a-cx-z]`, "abcxyz"}, {`[x-zb-ya]`, letters}, {`[a^]`, "a^"}, {`[.*|&~+?{}()[]`, ".*|&~+?{}()["},
		{`[!-\-]`, "!\"#$%&'()*+,-"}, {`[\*-\.]`, "*+,-."}, {`[\da]`, "0123456789a"}, {`[\u{61}-\u{63}]`, "abc"},
	} {
		turned := "[^" + strings.TrimPrefix(c.pattern, "[")
		if !strings.HasPrefix(c.pattern, "[") {
			turned += "]"
		}
		for b := range 128 {
			text := string(rune(b))
			has := strings.Contains(c.has, text)
			wantMatches(t, []matchCase{
				{c.pattern, text, 200, has, motif.OK},
				{turned, text, 200, !has, motif.OK},
				{`~` + c.pattern, text, 200, !has, motif.OK},
			})
		}
		wantWords(t, turned, []string{"é", "\ud7ff", "\ue000", "\U0010ffff", "\xff"}, []string{"", "éé"})
	}
}

func TestMatchClassesAtTheEdges(t *testing.T) {
	wantWords(t, `[^]`, []string{"a", "\x00", "\U0010ffff", "\xff", "]"}, []string{"", "aa"})
	wantWords(t, `[^^]`, []string{"a", "]"}, []string{"^", ""})
	wantWords(t, `[\^a]`, []string{"a", "^"}, []string{"b", `\`})
	wantWords(t, `[\u{d7ff}-\u{e000}]`, []string{"\ud7ff", "\ue000"}, []string{"\ud7fe", "\ue001", "\ufffd", "\xed\xa0\x80"})
	wantWords(t, `[^\u{d7ff}-\u{e000}]`, []string{"\ud7fe", "\ue001", "\ufffd"}, []string{"\ud7ff", "\ue000"})
	wantWords(t, `[\u{0}-\u{10ffff}]`, []string{"\x00", "é", "\U0010ffff", "\xff"}, []string{"", "ab"})
	wantWords(t, `[à-ÿ]`, []string{"é", "à", "ÿ"}, []string{"e", "ß", "Ā", "\xe9"})
}

func TestMatchBytesWhereNoEncodingBegins(t *testing.T) {
	for _, c := range []struct {
		text    string
		symbols int
	}{
		{"\xff", 1}, {"\x80", 1}, {"\xff\xfe", 2}, {"\xe2\x82", 2}, {"\xc0\xaf", 2}, {"\xc1\xbf", 2}, {"\xed\xa0\x80", 3}, {"\xed\xbf\xbf", 3}, {"\xe0\x80\x80", 3}, {"\xf0\x8f\xbf\xbf", 4}, {"\xf4\x90\x80\x80", 4}, {"\xf8\x88\x80\x80\x80", 5}, {"\xf0\x9f\x98", 3}, {"\xef\xbf\xbd", 1}, {"\xef\xbf", 2},
	} {
		wantWords(t, strings.Repeat(`\u{fffd}`, c.symbols), []string{c.text}, []string{c.text + "\xff", ""})
		wantWords(t, "\xff{"+string(rune('0'+c.symbols))+"}", []string{c.text}, []string{c.text + "a", c.text[1:]})
		wantWords(t, "a.{"+string(rune('0'+c.symbols))+"}b", []string{"a" + c.text + "b"}, []string{"a" + c.text + "bb"})
	}
	wantWords(t, `..`, []string{"\xc3a", "é\xa9", "\xa9é", "\xe2é"}, []string{"é", "\xc3\xa9"})
	wantWords(t, `[^\u{fffd}]*`, []string{"é日😀", "\ufffe"}, []string{"a\xc3", "\ufffd"})
	wantWords(t, "\xe2\x82", []string{"\xff\xff", "\ufffd\ufffd"}, []string{"\ufffd", "€"})
}

func TestMatchErrorsInTheirOrder(t *testing.T) {
	long, longText := strings.Repeat("*", 61), strings.Repeat("a", 61)
	for _, budget := range []int{math.MinInt, -1, 0, 1, 200, 201, math.MaxInt} {
		wantMatches(t, []matchCase{
			{long, "", budget, false, motif.ErrLong}, {"a", longText, budget, false, motif.ErrLong}, {long, longText, budget, false, motif.ErrLong}, {"*", longText, budget, false, motif.ErrLong}, {strings.Repeat("a", 31), longText, budget, false, motif.ErrLong},
			{strings.Repeat("a", 1<<24), "a", budget, false, motif.ErrLong}, {"(", strings.Repeat("\xff", 1<<24), budget, false, motif.ErrLong},
			{"*", "a", budget, false, motif.ErrForm}, {"a{13}", "a", budget, false, motif.ErrRange}, {strings.Repeat("(", 9), "a", budget, false, motif.ErrDeep}, {strings.Repeat("a", 31), "a", budget, false, motif.ErrBig},
		})
	}
	for _, budget := range []int{math.MinInt, -201, -1, 201, 202, math.MaxInt} {
		wantMatches(t, []matchCase{{"a", "a", budget, false, motif.ErrArg}, {"", "", budget, false, motif.ErrArg}, {"[]", "aa", budget, false, motif.ErrArg}})
	}
}

func TestMatchTextsOfGreatestLength(t *testing.T) {
	wantMatches(t, []matchCase{
		{`a*`, strings.Repeat("a", 60), 1, true, motif.OK}, {`a*`, strings.Repeat("a", 61), 1, false, motif.ErrLong},
		{`é*`, strings.Repeat("é", 30), 1, true, motif.OK}, {`é*`, strings.Repeat("é", 30) + "a", 1, false, motif.ErrLong},
		{`(.{12}){5}`, strings.Repeat("\xff", 60), 61, true, motif.OK}, {`(.{12}){5}`, strings.Repeat("\xff", 60), 60, false, motif.ErrBudget}, {`(.{12}){5}`, strings.Repeat("x", 59), 60, false, motif.OK},
	})
}

func TestMatchBudgets(t *testing.T) {
	for _, c := range []struct {
		pattern, text string
		met           int
		matched       bool
	}{
		{``, ``, 1, true}, {`[]`, ``, 1, false}, {`[]`, `abc`, 1, false}, {`a`, ``, 1, false}, {`a`, `b`, 2, false}, {`a`, `bbbb`, 2, false}, {`a`, `a`, 2, true}, {`a`, `aa`, 3, false}, {``, `a`, 2, false},
		{`abc`, `abc`, 4, true}, {`a{3}`, `aaa`, 4, true}, {`a{1,3}`, `aaa`, 4, true}, {`a{2,}`, `aaaaaa`, 3, true}, {`a+`, `aaa`, 2, true},
		{`.*`, `abc`, 1, true}, {`~[]`, `abc`, 1, true}, {`~a`, `aa`, 3, true}, {`~(ab)`, `abc`, 4, true}, {`~~a`, `a`, 2, true}, {`(ab)*`, `abab`, 2, true},
		{`(ab|ac)d`, `abd`, 4, true}, {`ab|cb`, `ab`, 3, true}, {`(a|b)*a(a|b)`, `abab`, 3, true}, {`(a|b)*a(a|b)`, `bbbb`, 1, false},
		{`a*&(aa)*`, `aaaa`, 2, true}, {`(a*b*)*`, `aabba`, 3, true}, {`a|a`, `a`, 2, true}, {`a{2}|aa`, `aa`, 3, true}, {`a?a?`, `aa`, 3, true}, {`(a|ab)(c|bc)`, `abc`, 4, true},
	} {
		wantMatches(t, []matchCase{
			{c.pattern, c.text, c.met, c.matched, motif.OK}, {c.pattern, c.text, c.met - 1, false, motif.ErrBudget},
			{c.pattern, c.text, 0, false, motif.ErrBudget}, {c.pattern, c.text, 200, c.matched, motif.OK}, {c.pattern, c.text, 201, false, motif.ErrArg},
		})
	}
}

// TestCallsKeepNothing: each call answers the same whatever was asked before.
func TestCallsKeepNothing(t *testing.T) {
	type answer struct {
		matched     bool
		begin, end  int
		all         string
		one, two, e motif.Errno
	}
	ask := func(pattern, text string, budget int) (a answer) {
		a.matched, a.one = motif.Match(pattern, text, budget)
		a.begin, a.end, a.two = motif.Find(pattern, text, 0, budget)
		a.all, a.e = motif.FindAll(pattern, text, budget)
		return a
	}
	patterns := []string{`a*b`, `~(a*)`, `.*a.{3}`, `a&b`, `(`, `[b-a]`, `\w+`, strings.Repeat("a", 61), ``, `b|ab`}
	texts := []string{``, `aab`, `xabab`, "\xff", strings.Repeat("ab", 30), strings.Repeat("b", 61)}
	var first []answer
	for _, pattern := range patterns {
		for _, text := range texts {
			for _, budget := range []int{0, 2, 5, 200, 201} {
				first = append(first, ask(pattern, text, budget))
			}
		}
	}
	for round := range 3 {
		at := len(first) - 1
		for _, pattern := range slices.Backward(patterns) {
			for _, text := range slices.Backward(texts) {
				for _, budget := range []int{201, 200, 5, 2, 0} {
					if again := ask(pattern, text, budget); again != first[at] {
						t.Errorf("round %d: %.20q, %.20q, %d: %v, and before %v", round, pattern, text, budget, again, first[at])
					}
					at--
				}
			}
		}
	}
}
