package motif_test

import (
	"regexp"
	"strconv"
	"strings"
	"testing"
	"unicode/utf8"

	"motif/motif"
)

type checkCase struct {
	pattern string
	err     motif.Errno
	place   int
}

func wantChecks(t *testing.T, cases []checkCase) {
	t.Helper()
	for _, c := range cases {
		if err, place := motif.Check(c.pattern); err != c.err || place != c.place {
			t.Errorf("Check(%.70q) = %d, %d, want %d, %d", c.pattern, err, place, c.err, c.place)
		}
	}
}

func wantRight(t *testing.T, patterns ...string) {
	t.Helper()
	for _, pattern := range patterns {
		wantChecks(t, []checkCase{{pattern, motif.OK, 0}})
	}
}

func TestCheckExamples(t *testing.T) {
	wantChecks(t, []checkCase{
		{`a|b&~c*`, motif.OK, 0},
		{`a(`, motif.ErrForm, 2},
		{`a)`, motif.ErrForm, 1},
		{`*`, motif.ErrForm, 0},
		{`a{3,2}`, motif.ErrRange, 5},
		{`a{13}`, motif.ErrRange, 4},
		{`a{134}`, motif.ErrRange, 4},
		{`a{2,1`, motif.ErrRange, 5},
		{`[b-a]`, motif.ErrRange, 4},
		{`\u{d800}`, motif.ErrRange, 7},
		{`(((((((((`, motif.ErrDeep, 8},
		{`(((a{9}){9}){9})`, motif.ErrBig, 0},
	})
}

func TestCheckLength(t *testing.T) {
	wantChecks(t, []checkCase{
		{strings.Repeat("~", 59) + "a", motif.OK, 0},
		{strings.Repeat("~", 60) + "a", motif.ErrLong, 0},
		{"[" + strings.Repeat("a", 58) + "]", motif.OK, 0},
		{"[" + strings.Repeat("a", 59) + "]", motif.ErrLong, 0},
		{"[" + strings.Repeat("é", 29) + "]", motif.OK, 0},
		{"[" + strings.Repeat("é", 29) + "a]", motif.ErrLong, 0},
		{strings.Repeat("*", 60), motif.ErrForm, 0},
		{strings.Repeat("*", 61), motif.ErrLong, 0},
		{strings.Repeat("(", 1<<24), motif.ErrLong, 0},
	})
}

func TestCheckOrdinaryForms(t *testing.T) {
	wantRight(t,
		``, `|`, `||`, `&`, `a|`, `|a`, `a&`, `&|&`, `()`, `(|&)`, `(a)(b)`, `a|b&c`,
		`~a`, `~~a`, `a~b`, `~()`, `~(~a|b)&~[]`, `~.*`, `(~a*)+`,
		`a*`, `a+`, `a?`, `a*+?*`, `a{2}`, `a{2,}`, `a{2,3}`, `a{2}{3}*`, `(a){2}`, `[a]{2}`, `.{2}`,
		`a-b`, `^`, `-`, `,`, `a,b`, `0`, ` `, "\x00", "\n", `é`, `日本`, `😀`,
		`\|\&\~\*\+\?\{\}\[\]\(\)\.\\\^\-`, `\n\d\w`, `\d{2}`, `~\w+`)
}

func TestCheckOrdinaryClasses(t *testing.T) {
	wantRight(t,
		`[]`, `[^]`, `[a]`, `[^a]`, `[a^]`, `[^^]`, `[^^-^]`, `[a-z]`, `[a-a]`, `[a-zA-Z0-9_]`,
		`[|&~*+?{}[().,]`, `[[]`, `[!-.]`, `[\d]`, `[^\d\w]`, `[\da-c\w]`, `[\|-\}]`, `[\]\-\\]`,
		`[\^-a]`, `[\n-a]`, `[\u{61}-z]`, `[a-\u{7a}]`, `[\u{0}-\u{10ffff}]`, `[é-日]`, `[a-😀]`, "[\x00-\xff]")
}

func TestCheckFormOfRows(t *testing.T) {
	wantChecks(t, []checkCase{
		{`+`, motif.ErrForm, 0}, {`?`, motif.ErrForm, 0}, {`{2}`, motif.ErrForm, 0}, {`}`, motif.ErrForm, 0}, {`]`, motif.ErrForm, 0}, {`)`, motif.ErrForm, 0},
		{`a|*`, motif.ErrForm, 2}, {`a&+`, motif.ErrForm, 2}, {`(?)`, motif.ErrForm, 1}, {`a}`, motif.ErrForm, 1}, {`ab]`, motif.ErrForm, 2}, {`a*]`, motif.ErrForm, 2},
		{`~`, motif.ErrForm, 1}, {`a~`, motif.ErrForm, 2}, {`~~`, motif.ErrForm, 2}, {`~*`, motif.ErrForm, 1}, {`~|a`, motif.ErrForm, 1}, {`~&`, motif.ErrForm, 1}, {`(~)`, motif.ErrForm, 2}, {`a~*`, motif.ErrForm, 2},
		{`(`, motif.ErrForm, 1}, {`(a|`, motif.ErrForm, 3}, {`((a)`, motif.ErrForm, 4}, {`(a))`, motif.ErrForm, 3}, {`(a)|b)c`, motif.ErrForm, 5},
		{`é)`, motif.ErrForm, 2}, {`日(`, motif.ErrForm, 4}, {`😀*)`, motif.ErrForm, 5},
	})
}

func TestCheckFormOfRepeats(t *testing.T) {
	wantChecks(t, []checkCase{
		{`a{`, motif.ErrForm, 2}, {`a{}`, motif.ErrForm, 2}, {`a{,}`, motif.ErrForm, 2}, {`a{,2}`, motif.ErrForm, 2}, {`a{x}`, motif.ErrForm, 2}, {`a{-1}`, motif.ErrForm, 2}, {`a{ 1}`, motif.ErrForm, 2}, {`a{*`, motif.ErrForm, 2}, {`a{٣}`, motif.ErrForm, 2},
		{`a{1`, motif.ErrForm, 3}, {`a{1 }`, motif.ErrForm, 3}, {`a{1a}`, motif.ErrForm, 3}, {`a{12`, motif.ErrForm, 4}, {`a{123}`, motif.ErrForm, 4}, {`a{1)`, motif.ErrForm, 3},
		{`a{1,`, motif.ErrForm, 4}, {`a{1,x}`, motif.ErrForm, 4}, {`a{1,,}`, motif.ErrForm, 4}, {`a{1,2`, motif.ErrForm, 5}, {`a{1,2,}`, motif.ErrForm, 5}, {`a{1,12`, motif.ErrForm, 6}, {`a{1,123}`, motif.ErrForm, 6},
		{`a{0`, motif.ErrForm, 3}, {`a{00}`, motif.ErrForm, 3}, {`a{01}`, motif.ErrForm, 3}, {`a{0,00}`, motif.ErrForm, 5}, {`a{0,02}`, motif.ErrForm, 5},
	})
}

func TestCheckRangeOfRepeats(t *testing.T) {
	wantRight(t, `a{0}`, `a{0,}`, `a{0,0}`, `a{0,12}`, `a{9,12}`, `a{12}`, `a{12,}`, `a{12,12}`, `a{1,1}`, `a{1,10}`, `a{2,12}`)
	wantChecks(t, []checkCase{
		{`a{13}`, motif.ErrRange, 4}, {`a{13,}`, motif.ErrRange, 4}, {`a{13,13}`, motif.ErrRange, 4}, {`a{99}`, motif.ErrRange, 4}, {`a{20`, motif.ErrRange, 4}, {`a{13x`, motif.ErrRange, 4},
		{`a{1,13}`, motif.ErrRange, 6}, {`a{0,99`, motif.ErrRange, 6}, {`a{1,130}`, motif.ErrRange, 6}, {`a{9,19}`, motif.ErrRange, 6},
		{`a{1,0}`, motif.ErrRange, 5}, {`a{1,02}`, motif.ErrRange, 5}, {`a{12,11}`, motif.ErrRange, 7}, {`a{12,1}`, motif.ErrRange, 6}, {`a{12,1`, motif.ErrRange, 6}, {`a{3,2x}`, motif.ErrRange, 5}, {`a{3,2,`, motif.ErrRange, 5},
		{`😀{13}`, motif.ErrRange, 7}, {`éa{3,2}`, motif.ErrRange, 7},
	})
}

func TestCheckClasses(t *testing.T) {
	wantChecks(t, []checkCase{
		{`[`, motif.ErrForm, 1}, {`[^`, motif.ErrForm, 2}, {`[a`, motif.ErrForm, 2}, {`[a-`, motif.ErrForm, 3}, {`[a-b`, motif.ErrForm, 4}, {`[\`, motif.ErrForm, 2}, {`[\d`, motif.ErrForm, 3}, {`[a-\`, motif.ErrForm, 4},
		{`[-a]`, motif.ErrForm, 1}, {`[^-a]`, motif.ErrForm, 2}, {`[a-]`, motif.ErrForm, 3}, {`[a--]`, motif.ErrForm, 3}, {`[a-b-c]`, motif.ErrForm, 4}, {`[]]`, motif.ErrForm, 2}, {`[]-]`, motif.ErrForm, 3},
		{`[\d-a]`, motif.ErrForm, 3}, {`[\w-`, motif.ErrForm, 3}, {`[a-\d]`, motif.ErrForm, 4}, {`[a-\w`, motif.ErrForm, 4}, {`[\q]`, motif.ErrForm, 2}, {`[\,]`, motif.ErrForm, 2}, {`[\u]`, motif.ErrForm, 3},
		{`[b-a]`, motif.ErrRange, 4}, {`[b-a`, motif.ErrRange, 4}, {`[b-a-`, motif.ErrRange, 4}, {`[^b-a]`, motif.ErrRange, 5}, {`[a-^]`, motif.ErrRange, 4}, {`[ab-az]`, motif.ErrRange, 5},
		{`[é-a]`, motif.ErrRange, 5}, {`[日-é]`, motif.ErrRange, 7}, {`[a-\n]`, motif.ErrRange, 5}, {`[\}-\{]`, motif.ErrRange, 6}, {`[\u{62}-\u{61}]`, motif.ErrRange, 14}, {"[\xff-\u00e9]", motif.ErrRange, 5},
		{`[b-\u{d800}]`, motif.ErrRange, 10}, {`[\u{110000}-a]`, motif.ErrRange, 10}, {`[b-\u{61`, motif.ErrForm, 8},
	})
}

func TestCheckEscapes(t *testing.T) {
	wantChecks(t, []checkCase{
		{`\`, motif.ErrForm, 1}, {`a\`, motif.ErrForm, 2}, {`\a`, motif.ErrForm, 1}, {`\D`, motif.ErrForm, 1}, {`\W`, motif.ErrForm, 1}, {`\N`, motif.ErrForm, 1}, {`\U`, motif.ErrForm, 1}, {`\0`, motif.ErrForm, 1}, {`\ `, motif.ErrForm, 1}, {`\,`, motif.ErrForm, 1}, {`\é`, motif.ErrForm, 1}, {"\\\xff", motif.ErrForm, 1},
		{`\u`, motif.ErrForm, 2}, {`\u6`, motif.ErrForm, 2}, {`\u{`, motif.ErrForm, 3}, {`\u{}`, motif.ErrForm, 3}, {`\u{g}`, motif.ErrForm, 3}, {`\u{A}`, motif.ErrForm, 3}, {`\u{6`, motif.ErrForm, 4}, {`\u{6F}`, motif.ErrForm, 4}, {`\u{6 }`, motif.ErrForm, 4},
		{`\u{123456`, motif.ErrForm, 9}, {`\u{0000061}`, motif.ErrForm, 9}, {`\u{1234567}`, motif.ErrForm, 9}, {`\u{d800`, motif.ErrForm, 7}, {`\u{d800x}`, motif.ErrForm, 7}, {`\u{ffffffx`, motif.ErrForm, 9},
	})
}

func TestCheckNumberedSymbols(t *testing.T) {
	wantRight(t, `\u{0}`, `\u{000000}`, `\u{61}`, `\u{000061}`, `\u{d7ff}`, `\u{e000}`, `\u{fffd}`, `\u{d8000}`, `\u{10ffff}`, `\u{abcd}`, `\u{fedcb}`)
	wantChecks(t, []checkCase{
		{`\u{d800}`, motif.ErrRange, 7}, {`\u{00d800}`, motif.ErrRange, 9}, {`\u{dbff}`, motif.ErrRange, 7}, {`\u{dfff}`, motif.ErrRange, 7}, {`\u{110000}`, motif.ErrRange, 9}, {`\u{ffffff}`, motif.ErrRange, 9}, {`a\u{d800}*`, motif.ErrRange, 8},
	})
}

func TestCheckDepth(t *testing.T) {
	eight := strings.Repeat("(", 8)
	wantChecks(t, []checkCase{
		{eight + strings.Repeat(")", 8), motif.OK, 0},
		{eight + "a" + strings.Repeat(")", 8) + "(b)", motif.OK, 0},
		{eight + "a)(b)(c" + strings.Repeat(")", 8), motif.OK, 0},
		{eight + "[(]" + `\(` + strings.Repeat(")", 8), motif.OK, 0},
		{strings.Repeat("()", 30), motif.OK, 0},
		{eight, motif.ErrForm, 8},
		{eight + "(", motif.ErrDeep, 8},
		{eight + "()" + strings.Repeat(")", 8), motif.ErrDeep, 8},
		{eight + "a|~(", motif.ErrDeep, 11},
		{eight + "a)(b(", motif.ErrDeep, 12},
		{"é" + eight + "(", motif.ErrDeep, 10},
		{eight + "~", motif.ErrForm, 9},
		{eight + "a{(", motif.ErrForm, 10},
	})
}

// ofSize makes a pattern, one item, of that size.
func ofSize(size int) string {
	if size < 12 {
		return strings.Repeat("~", size-1) + "a"
	}
	return strings.Repeat("~", size%12) + "a{12}{" + strconv.Itoa(size/12) + "}"
}

func TestCheckSizes(t *testing.T) {
	for _, c := range []struct {
		pattern string
		size    int
	}{
		{``, 1}, {`a`, 1}, {`.`, 1}, {`\d`, 1}, {`\n`, 1}, {`\u{61}`, 1}, {`[]`, 1}, {`[^a-z\d]`, 1}, {`é`, 1}, {"\xff\xff", 3},
		{`ab`, 3}, {`abc`, 5}, {`a|b`, 3}, {`a&b`, 3}, {`|`, 3}, {`&`, 3}, {`||`, 5}, {`a||b`, 5}, {`ab|c&d`, 7},
		{`()`, 1}, {`(a)`, 1}, {`((a))`, 1}, {`(ab)`, 3}, {`(|)`, 3}, {`()()`, 3},
		{`a*`, 2}, {`a+`, 2}, {`a?`, 2}, {`a**`, 4}, {`a*+?`, 8}, {`(ab)*`, 6}, {`ab*`, 4},
		{`a{0}`, 1}, {`a{1}`, 1}, {`a{7}`, 7}, {`a{12}`, 12}, {`(ab){7}`, 21}, {`(ab){0}`, 3},
		{`a{0,}`, 1}, {`a{1,}`, 2}, {`a{7,}`, 8}, {`(ab){7,}`, 24},
		{`a{0,0}`, 1}, {`a{0,1}`, 1}, {`a{0,7}`, 7}, {`a{3,7}`, 7}, {`(ab){3,7}`, 21}, {`a{2}{3,}{4,5}`, 40},
		{`~a`, 2}, {`~~a`, 3}, {`~a*`, 3}, {`~~a*{3}`, 8}, {`(~a)*`, 4}, {`~a~b`, 5}, {`~(ab){3}`, 10},
	} {
		wantChecks(t, []checkCase{
			{c.pattern + "|" + ofSize(60-1-c.size), motif.OK, 0},
			{c.pattern + "|" + ofSize(61-1-c.size), motif.ErrBig, 0},
		})
	}
}

func TestCheckGreatSizes(t *testing.T) {
	wantChecks(t, []checkCase{
		{strings.Repeat("a", 30), motif.OK, 0}, {strings.Repeat("a", 31), motif.ErrBig, 0},
		{`a{12}{5}`, motif.OK, 0}, {`(a{5}){12}`, motif.OK, 0}, {`~a{12}{5}`, motif.ErrBig, 0}, {`a{12}{5}{0}`, motif.OK, 0}, {`a{12}{6}{0}`, motif.ErrBig, 0},
		{"a" + strings.Repeat("*", 59), motif.ErrBig, 0},
		{"a" + strings.Repeat("{9}", 19) + "**", motif.ErrBig, 0},
		{"a" + strings.Repeat("{12}", 14), motif.ErrBig, 0},
		{strings.Repeat("(", 8) + "a" + strings.Repeat("{9})", 8) + strings.Repeat("{9}", 6), motif.ErrBig, 0},
		{strings.Repeat("|", 59) + "a", motif.ErrBig, 0}, {strings.Repeat("&", 60), motif.ErrBig, 0},
	})
}

func TestCheckTellsWhatIsMetFirst(t *testing.T) {
	many := strings.Repeat("(", 9)
	wantChecks(t, []checkCase{
		{`a{13}*)`, motif.ErrRange, 4}, {`)a{13}`, motif.ErrForm, 0}, {`a{01}b{13}`, motif.ErrForm, 3},
		{`[b-a]\u{d800}`, motif.ErrRange, 4}, {`\u{d800}[b-a]`, motif.ErrRange, 7},
		{`a{13}` + many, motif.ErrRange, 4}, {many + `a{13}`, motif.ErrDeep, 8}, {many + `*`, motif.ErrDeep, 8}, {`*` + many, motif.ErrForm, 0},
		{strings.Repeat("a", 31) + `(`, motif.ErrForm, 32}, {`a{12}{12}[b-a]`, motif.ErrRange, 13}, {`a{12}{12}` + many, motif.ErrDeep, 17},
		{`a{13`, motif.ErrRange, 4}, {`a{13)`, motif.ErrRange, 4}, {`[b-a`, motif.ErrRange, 4}, {`[b-a-c]`, motif.ErrRange, 4}, {`a{2,1)`, motif.ErrRange, 5},
	})
}

func TestCheckBytesWhereNoEncodingBegins(t *testing.T) {
	wantRight(t, "\xff", "\x80\xbf", "\xff*", "~\xfe", "[\xff]", "[a-\xff]", "[\xff-\xfe]", "[\xff-\ufffd]", "[\xed\xa0\x80]")
	wantChecks(t, []checkCase{
		{"\xff\xff)", motif.ErrForm, 2},
		{"\xe2\x82)", motif.ErrForm, 2},           // cut off
		{"\xc0\xaf)", motif.ErrForm, 2},           // not the shortest
		{"\xed\xa0\x80)", motif.ErrForm, 3},       // d800
		{"\xf4\x90\x80\x80)", motif.ErrForm, 4},   // 110000
		{"[\xff-a]", motif.ErrRange, 4},           // fffd is above a
		{"[\ufffe-\xff]", motif.ErrRange, 6},      // and below fffe
		{"[a-\xed\xa0\x80-b]", motif.ErrRange, 8}, // a-fffd, fffd, fffd-b
		{"a{\xff}", motif.ErrForm, 2},             // no digit
		{"\xc3\\", motif.ErrForm, 2},              // the byte takes none of what is behind it
		{strings.Repeat("\xff", 60), motif.ErrBig, 0},
		{strings.Repeat("\xff", 61), motif.ErrLong, 0},
	})
}

// eachText hands over all texts of up to that many of the pieces.
func eachText(pieces []string, most int, hand func(string)) {
	var grow func(text string, left int)
	grow = func(text string, left int) {
		hand(text)
		if left == 0 {
			return
		}
		for _, piece := range pieces {
			grow(text+piece, left-1)
		}
	}
	grow("", most)
}

// grammar is the document's form of a pattern in which groups stand within
// each other at most twice, in another language. (None of its numbers and
// limits is out of range.)
func grammar() *regexp.Regexp {
	escape := `\\(?:[|&~*+?{}\[\]().\\^\-n]|u\{[0-9a-f]{1,6}\})`
	limit := `(?:[^\]\\\-]|` + escape + `)`
	part := `(?:\\[dw]|` + limit + `(?:-` + limit + `)?)`
	// Ahead of any part stands `^` or a part that does not begin with it.
	notTurned := `(?:\\[dw]|(?:[^\]\\\-^]|` + escape + `)(?:-` + limit + `)?)`
	class := `\[(?:(?:\^|` + notTurned + `)` + part + `*)?\]`
	number := `(?:0|[1-9][0-9]?)`
	repeat := `(?:[*+?]|\{` + number + `(?:,` + number + `?)?\})`
	choice := `[^\s\S]`
	for range 3 {
		atom := `(?:\.|[^|&~*+?{}\[\]().\\]|\\[dw]|` + escape + `|` + class + `|\(` + choice + `\))`
		row := `(?:~*` + atom + repeat + `*)*`
		choice = `(?:` + row + `(?:[|&]` + row + `)*)`
	}
	return regexp.MustCompile(`(?s)^` + choice + `$`)
}

func TestCheckAgainstTheGrammar(t *testing.T) {
	right := grammar()
	for _, pieces := range [][]string{
		{"a", "|", "~", "*", "(", ")", "."},
		{"a", "{", "}", "1", "0", ",", "("},
		{"a", "[", "]", "^", "-", `\`, "d"},
		{`\`, "u", "{", "}", "[", "1", "-"},
	} {
		eachText(pieces, 6, func(text string) {
			err, place := motif.Check(text)
			if err == motif.ErrRange || err == motif.ErrDeep || strings.Contains(text, "(((") {
				return
			}
			if matched := right.MatchString(text); matched != (err == motif.OK || err == motif.ErrBig) {
				t.Errorf("Check(%q) = %d, %d, but by the grammar it is %v that this is a pattern", text, err, place, matched)
			}
		})
	}
}

// goesOn tells whether a text, cut off at any place, is the beginning of a
// pattern: what is begun last is closed first, then the groups.
func goesOn(text string) bool {
	for _, begun := range []string{"", "a", "n", "]", "n]", "\U0010ffff]", "u{10ffff}]", "}", "1}"} {
		for groups := range len(text) + 1 {
			if err, _ := motif.Check(text + begun + strings.Repeat(")", groups)); err == motif.OK {
				return true
			}
		}
	}
	return false
}

// TestCheckPlaces: what stands behind the symbol at which an error is told has
// no part in it; what stands ahead of it is the beginning of a pattern.
func TestCheckPlaces(t *testing.T) {
	eachText([]string{"a", "~", "(", ")", "[", "]", "-", "{", "1", `\`}, 5, func(text string) {
		err, place := motif.Check(text)
		if err == motif.OK {
			return
		}
		if err == motif.ErrForm && !goesOn(text[:place]) {
			t.Errorf("Check(%q) = %d, %d, but no pattern begins so", text, err, place)
		}
		if place == len(text) {
			return
		}
		_, width := utf8.DecodeRuneInString(text[place:])
		for _, tail := range []string{"", "a", "1", "n", "*", "}", "]", ")", "1}", "a]", "(", "[", `\`} {
			other := text[:place+width] + tail
			if e, p := motif.Check(other); e != err || p != place {
				t.Errorf("Check(%q) = %d, %d, but Check(%q) = %d, %d", text, err, place, other, e, p)
			}
		}
	})
}

func TestCheckOfAllBytes(t *testing.T) {
	var pieces []string
	for b := range 256 {
		pieces = append(pieces, string([]byte{byte(b)}))
	}
	eachText(pieces, 2, func(text string) {
		for _, head := range []string{"", "a{", "[", "[a-", `\u{`, `\`} {
			err, place := motif.Check(head + text)
			if err < motif.OK || err > motif.ErrBig || place < 0 || place > len(head+text) || err == motif.OK && place != 0 {
				t.Fatalf("Check(%q) = %d, %d", head+text, err, place)
			}
		}
	})
}

func TestCheckKeepsNothing(t *testing.T) {
	patterns := []string{``, `a`, `((`, `a{13}`, strings.Repeat("(", 9), `[b-a]`, `\u{d800}`, strings.Repeat("a", 31), strings.Repeat("a", 61), `~a`, `)`}
	for _, before := range patterns {
		for _, pattern := range patterns {
			err, place := motif.Check(pattern)
			motif.Check(before)
			if e, p := motif.Check(pattern); e != err || p != place {
				t.Errorf("Check(%q) = %d, %d, but %d, %d behind Check(%q)", pattern, err, place, e, p, before)
			}
		}
	}
}
