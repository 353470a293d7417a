package motif_test

import (
	"math"
	"strconv"
	"strings"
	"testing"
	"unicode/utf8"

	"motif/motif"
)

type findCase struct {
	pattern, text string
	from, budget  int
	begin, end    int
	err           motif.Errno
}

func wantFinds(t *testing.T, cases []findCase) {
	t.Helper()
	for _, c := range cases {
		if begin, end, err := motif.Find(c.pattern, c.text, c.from, c.budget); begin != c.begin || end != c.end || err != c.err {
			t.Errorf("Find(%.70q, %.70q, %d, %d) = %d, %d, %d, want %d, %d, %d", c.pattern, c.text, c.from, c.budget, begin, end, err, c.begin, c.end, c.err)
		}
	}
}

type allCase struct {
	pattern, text string
	budget        int
	stretches     string
	err           motif.Errno
}

func wantAlls(t *testing.T, cases []allCase) {
	t.Helper()
	for _, c := range cases {
		if stretches, err := motif.FindAll(c.pattern, c.text, c.budget); stretches != c.stretches || err != c.err {
			t.Errorf("FindAll(%.70q, %.70q, %d) = %q, %d, want %q, %d", c.pattern, c.text, c.budget, stretches, err, c.stretches, c.err)
		}
	}
}

func TestFindExamples(t *testing.T) {
	wantFinds(t, []findCase{
		{`a|ab|b`, `xabab`, 0, 200, 1, 3, motif.OK},
		{`a|ab|b`, `xabab`, 2, 200, 2, 3, motif.OK},
		{`c`, `xabab`, 0, 200, -1, -1, motif.OK},
		{`a|ab|b`, `xabab`, 9, 200, 0, 0, motif.ErrArg},
	})
	wantAlls(t, []allCase{
		{`a|ab`, `xabab`, 200, `1-3,3-5`, motif.OK},
		{`a*`, `baac`, 200, `0-0,1-3,3-3,4-4`, motif.OK},
	})
}

func TestFindFirstAndLongest(t *testing.T) {
	wantFinds(t, []findCase{
		{`a+`, `baab`, 0, 200, 1, 3, motif.OK}, {`a+`, `baab`, 2, 200, 2, 3, motif.OK}, {`a+`, `baab`, 3, 200, -1, -1, motif.OK}, {`a+`, `baab`, 4, 200, -1, -1, motif.OK},
		{`b|aa`, `aab`, 0, 200, 0, 2, motif.OK}, {`b|ab`, `aab`, 0, 200, 1, 3, motif.OK}, {`a.*z|b`, `abczd`, 0, 200, 0, 4, motif.OK}, {`a.*z|b`, `abcd`, 0, 200, 1, 2, motif.OK},
		{`ab?c?d?`, `abcx`, 0, 200, 0, 3, motif.OK}, {`a|abcd`, `abcx`, 0, 200, 0, 1, motif.OK}, {`a|ab|abcd`, `abcd`, 0, 200, 0, 4, motif.OK},
		{`~(.*b.*)`, `aba`, 0, 200, 0, 1, motif.OK}, {`~(.*b.*)`, `aba`, 1, 200, 1, 1, motif.OK}, {`~a`, `a`, 0, 200, 0, 0, motif.OK}, {`~()`, `abc`, 1, 200, 1, 3, motif.OK},
		{`\w+&~(\d*)`, `12 b3`, 0, 200, 3, 5, motif.OK}, {`[]`, `abc`, 0, 200, -1, -1, motif.OK}, {`[]`, ``, 0, 200, -1, -1, motif.OK},
	})
}

func TestFindEmptyStretches(t *testing.T) {
	wantFinds(t, []findCase{
		{``, ``, 0, 200, 0, 0, motif.OK}, {``, `ab`, 0, 200, 0, 0, motif.OK}, {``, `ab`, 1, 200, 1, 1, motif.OK}, {``, `ab`, 2, 200, 2, 2, motif.OK},
		{`a*`, `baa`, 0, 200, 0, 0, motif.OK}, {`a*`, `baa`, 1, 200, 1, 3, motif.OK}, {`a*`, `baa`, 3, 200, 3, 3, motif.OK}, {`a?`, `éa`, 2, 200, 2, 3, motif.OK}, {`a?`, `aé`, 3, 200, 3, 3, motif.OK},
		{`a`, ``, 0, 200, -1, -1, motif.OK}, {`a`, `a`, 1, 200, -1, -1, motif.OK},
	})
	wantAlls(t, []allCase{
		{``, ``, 200, `0-0`, motif.OK}, {``, `ab`, 200, `0-0,1-1,2-2`, motif.OK}, {``, `é😀`, 200, `0-0,2-2,6-6`, motif.OK}, {``, "é\xff\xe2\x82", 200, `0-0,2-2,3-3,4-4,5-5`, motif.OK},
		{`a*`, `aa`, 200, `0-2,2-2`, motif.OK}, {`a*`, `b`, 200, `0-0,1-1`, motif.OK}, {`a*`, ``, 200, `0-0`, motif.OK}, {`b?`, `abb`, 200, `0-0,1-2,2-3,3-3`, motif.OK},
		{`~(.*,.*)`, `a,,b`, 200, `0-1,1-1,2-2,3-4,4-4`, motif.OK},
	})
}

func TestFindAllOneBehindTheOther(t *testing.T) {
	wantAlls(t, []allCase{
		{`a`, ``, 200, ``, motif.OK}, {`a`, `bbb`, 200, ``, motif.OK}, {`a`, `aaa`, 200, `0-1,1-2,2-3`, motif.OK}, {`aa`, `aaaaa`, 200, `0-2,2-4`, motif.OK}, {`aba`, `ababa`, 200, `0-3`, motif.OK},
		{`a+`, `aabaaab`, 200, `0-2,3-6`, motif.OK}, {`.`, "é\xffa", 200, `0-2,2-3,3-4`, motif.OK}, {`[^a]+`, "aéa\xffa😀", 200, `1-3,4-5,6-10`, motif.OK}, {`[]`, `ab`, 200, ``, motif.OK},
		{`ab|b|`, `abb`, 200, `0-2,2-3,3-3`, motif.OK}, {`.{12}`, strings.Repeat("x", 60), 200, `0-12,12-24,24-36,36-48,48-60`, motif.OK},
	})
}

// TestFindPlaces goes through all numbers that could be places of texts.
func TestFindPlaces(t *testing.T) {
	for _, text := range []string{``, `a`, `xabab`, `é`, `aé`, `日a😀`, "\xff", "\xe2\x82a", "é\x80\xf0\x9f\x98", strings.Repeat("é", 30), strings.Repeat("\xff", 60)} {
		begins := map[int]bool{len(text): true}
		for place := range text {
			begins[place] = true
		}
		for from := -3; from <= len(text)+3; from++ {
			if !begins[from] {
				wantFinds(t, []findCase{{`a*`, text, from, 200, 0, 0, motif.ErrArg}, {`[]`, text, from, 0, 0, 0, motif.ErrArg}})
				continue
			}
			if from == len(text) {
				wantFinds(t, []findCase{{`.`, text, from, 200, -1, -1, motif.OK}, {``, text, from, 200, from, from, motif.OK}})
				continue
			}
			_, width := utf8.DecodeRuneInString(text[from:])
			wantFinds(t, []findCase{{`.`, text, from, 200, from, from + width, motif.OK}, {``, text, from, 200, from, from, motif.OK}, {`.*`, text, from, 200, from, len(text), motif.OK}})
		}
		for _, from := range []int{math.MinInt, math.MinInt + 1, -61, 61, math.MaxInt} {
			wantFinds(t, []findCase{{`a*`, text, from, 200, 0, 0, motif.ErrArg}})
		}
	}
}

func TestFindErrorsInTheirOrder(t *testing.T) {
	long, longText := strings.Repeat("*", 61), strings.Repeat("a", 61)
	for _, budget := range []int{math.MinInt, -1, 0, 1, 200, 201, math.MaxInt} {
		for _, c := range []struct {
			pattern, text string
			err           motif.Errno
		}{
			{long, "", motif.ErrLong}, {"a", longText, motif.ErrLong}, {long, longText, motif.ErrLong}, {"*", longText, motif.ErrLong}, {strings.Repeat("a", 31), longText, motif.ErrLong}, {"(", strings.Repeat("a", 1<<24), motif.ErrLong}, {strings.Repeat("a", 1<<24), "", motif.ErrLong},
			{"*", "a", motif.ErrForm}, {"a{13}", "a", motif.ErrRange}, {strings.Repeat("(", 9), "a", motif.ErrDeep}, {strings.Repeat("a", 31), "a", motif.ErrBig},
		} {
			wantAlls(t, []allCase{{c.pattern, c.text, budget, "", c.err}})
			for _, from := range []int{math.MinInt, -1, 0, 1, 62, math.MaxInt} {
				wantFinds(t, []findCase{{c.pattern, c.text, from, budget, 0, 0, c.err}})
			}
		}
	}
	for _, budget := range []int{math.MinInt, -1, 201, math.MaxInt} {
		wantAlls(t, []allCase{{`a`, `a`, budget, "", motif.ErrArg}})
		for _, from := range []int{-1, 0, 1, 2} {
			wantFinds(t, []findCase{{`a`, `a`, from, budget, 0, 0, motif.ErrArg}})
		}
	}
	wantFinds(t, []findCase{{`a`, `a`, 2, 0, 0, 0, motif.ErrArg}, {`a`, `a`, 1, 0, 0, 0, motif.ErrBudget}, {``, ``, 0, 0, 0, 0, motif.ErrBudget}})
	wantAlls(t, []allCase{{`a`, `a`, 0, "", motif.ErrBudget}, {``, ``, 0, "", motif.ErrBudget}})
}

func TestFindBudgets(t *testing.T) {
	for _, c := range []struct {
		pattern, text         string
		from, met, begin, end int
	}{
		{``, ``, 0, 1, 0, 0}, {`[]`, `abc`, 0, 1, -1, -1}, {`a`, ``, 0, 1, -1, -1}, {`a`, `b`, 0, 2, -1, -1}, {`a`, `b`, 1, 1, -1, -1}, {`a`, `a`, 0, 2, 0, 1},
		// What stands behind the stretch is met, up to the set of no symbols.
		{`a`, `ax`, 0, 3, 0, 1}, {`a`, `axyz`, 0, 3, 0, 1}, {``, `a`, 0, 2, 0, 0}, {`a|abcde`, `abcx`, 0, 5, 0, 1}, {`~a`, `aa`, 0, 3, 0, 2},
		// So is what is met at places where no stretch begins, but not behind the answer.
		{`abc|x`, `abx`, 0, 5, 2, 3}, {`abc|x`, `abx`, 1, 3, 2, 3}, {`abc|x`, `abx`, 2, 2, 2, 3}, {`abc|x`, `xab`, 0, 3, 0, 1}, {`abc`, `abab`, 0, 4, -1, -1}, {`abc`, `ab`, 1, 2, -1, -1}, {`ab|cd|e`, `ace`, 0, 5, 2, 3},
		// Terms that are the same at several places count once.
		{`aab`, `aaaa`, 0, 4, -1, -1}, {`a*b`, `aaaa`, 0, 1, -1, -1}, {`a[\u{d7ff}-\u{e000}]|b(\u{d7ff}|\u{e000})`, `ab`, 0, 3, -1, -1},
	} {
		wantFinds(t, []findCase{
			{c.pattern, c.text, c.from, c.met, c.begin, c.end, motif.OK}, {c.pattern, c.text, c.from, c.met - 1, 0, 0, motif.ErrBudget},
			{c.pattern, c.text, c.from, 0, 0, 0, motif.ErrBudget}, {c.pattern, c.text, c.from, 200, c.begin, c.end, motif.OK},
		})
	}
}

func TestFindAllBudgets(t *testing.T) {
	for _, c := range []struct {
		pattern, text string
		met           int
		stretches     string
	}{
		{``, ``, 1, `0-0`}, {``, `ab`, 2, `0-0,1-1,2-2`}, {`[]`, `aba`, 1, ``}, {`a`, `aba`, 3, `0-1,2-3`}, {`a`, `a`, 2, `0-1`}, {`a*`, `aa`, 1, `0-2,2-2`},
		// All finds together: the second one meets what the first did not.
		{`ab|cd|e`, `eab`, 4, `0-1,1-3`}, {`ab|cd|e`, `ecx`, 4, `0-1`}, {`ab|cd|e`, `eabcd`, 5, `0-1,1-3,3-5`}, {`ab|cd|e`, `eabc`, 5, `0-1,1-3`},
	} {
		wantAlls(t, []allCase{
			{c.pattern, c.text, c.met, c.stretches, motif.OK}, {c.pattern, c.text, c.met - 1, "", motif.ErrBudget},
			{c.pattern, c.text, 0, "", motif.ErrBudget}, {c.pattern, c.text, 200, c.stretches, motif.OK},
		})
	}
}

// TestFindAboveTheGreatestBudget: more terms than any budget allows.
func TestFindAboveTheGreatestBudget(t *testing.T) {
	pattern, text := `.*a.{12}&.*b.{12}|.*c.{12}`, `babbababbbaaabbbabbaaaabaabbaabbbbbbabbbbabbbaaabbababbbaabb`
	wantFinds(t, []findCase{{pattern, text, 0, 200, 0, 0, motif.ErrBudget}})
	wantAlls(t, []allCase{{pattern, text, 200, "", motif.ErrBudget}})
}

// TestCallsOnAllTexts: patterns of all sorts, right and wrong ones: the errors
// are those of Check, and what the calls answer goes together.
func TestCallsOnAllTexts(t *testing.T) {
	eachText([]string{"a", "\xff", ".", "|", "&", "~", "*", "{2}", "(", ")", "[^", "]"}, 4, func(pattern string) {
		want, _ := motif.Check(pattern)
		for _, text := range []string{"", "a", "a\xffb", "é"} {
			matched, err := motif.Match(pattern, text, 200)
			begin, end, findErr := motif.Find(pattern, text, 0, 200)
			all, allErr := motif.FindAll(pattern, text, 200)
			if err != want || findErr != want || allErr != want {
				t.Fatalf("%q in %q: %d, %d, %d, but Check tells %d", pattern, text, err, findErr, allErr, want)
			}
			if want != motif.OK && (matched || begin != 0 || end != 0 || all != "") {
				t.Fatalf("%q in %q: %v, %d, %d, %q beside an error", pattern, text, matched, begin, end, all)
			}
			if matched && (begin != 0 || end != len(text)) {
				t.Fatalf("%q has the word %q, but %d, %d is found", pattern, text, begin, end)
			}
			first := strconv.Itoa(begin) + "-" + strconv.Itoa(end)
			if want == motif.OK && begin >= 0 && all != first && !strings.HasPrefix(all, first+",") || begin < 0 && all != "" {
				t.Fatalf("%q in %q: %d, %d is found, and %q", pattern, text, begin, end, all)
			}
		}
	})
}
