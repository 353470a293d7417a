package motif

import (
	"slices"
	"testing"
)

func TestSetOf(t *testing.T) {
	for _, c := range []struct {
		pieces []piece
		want   set
	}{
		{nil, noSymbols},
		{[]piece{{'a', 'a'}}, "aa"},
		{[]piece{{'a', 'c'}, {'b', 'd'}}, "ad"},
		{[]piece{{'a', 'd'}, {'b', 'c'}}, "ad"},
		{[]piece{{'b', 'c'}, {'a', 'd'}}, "ad"},
		{[]piece{{'a', 'b'}, {'c', 'd'}}, "ad"},
		{[]piece{{'d', 'e'}, {'a', 'b'}}, "abde"},
		{[]piece{{'a', 'a'}, {'a', 'a'}}, "aa"},
		{[]piece{{0, gapBelow}, {gapAbove, lastSymbol}}, everySymbol},
		{[]piece{{gapAbove, gapAbove}, {gapBelow, gapBelow}}, "\ud7ff\ue000"},
		{[]piece{{'a', lastSymbol}, {'b', 'c'}, {lastSymbol, lastSymbol}}, "a\U0010ffff"},
		{append(wordSymbols.pieces(), digitSymbols.pieces()...), wordSymbols},
	} {
		if got := setOf(c.pieces); got != c.want {
			t.Errorf("setOf(%q) = %q, want %q", c.pieces, got, c.want)
		}
	}
}

func TestSetOfLeavesItsPiecesAsTheyAre(t *testing.T) {
	pieces := []piece{{'d', 'e'}, {'a', 'b'}, {'b', 'c'}}
	before := slices.Clone(pieces)
	setOf(pieces)
	if !slices.Equal(pieces, before) {
		t.Errorf("setOf made %q of %q", pieces, before)
	}
}

func TestOthers(t *testing.T) {
	for _, c := range []struct{ one, other set }{
		{noSymbols, everySymbol},
		{"bb", "\x00ac\U0010ffff"},
		{"\x00a", "b\U0010ffff"},
		{"bcef", "\x00addg\U0010ffff"},
		{"\x00\ud7ff", "\ue000\U0010ffff"},
		{"\ud7ff\ud7ff", "\x00\ud7fe\ue000\U0010ffff"},
		{"\ue000\ue000", "\x00\ud7ff\ue001\U0010ffff"},
		{"\ud7ff\ue000", "\x00\ud7fe\ue001\U0010ffff"},
	} {
		if c.one.others() != c.other || c.other.others() != c.one {
			t.Errorf("others of %q and %q: %q and %q", c.one, c.other, c.one.others(), c.other.others())
		}
	}
}

// TestSetsBySymbols holds sets against each other symbol by symbol.
func TestSetsBySymbols(t *testing.T) {
	sets := []set{noSymbols, everySymbol, digitSymbols, wordSymbols, "aa", "acee", "bd", "\x00\x00", "\ud7ff\ud7ff", "\ue000\ue000", "\ud7fe\ue001", "\U0010ffff\U0010ffff", "c\ud7ff", "\ue000\U0010ffff"}
	symbols := []rune{0, 1, '/', '0', '9', ':', '@', 'A', 'Z', '[', '_', '`', 'a', 'b', 'c', 'd', 'e', 'f', 'z', '{', 0xd7fd, 0xd7fe, 0xd7ff, 0xe000, 0xe001, 0xe002, 0xfffd, 0x10fffe, 0x10ffff}
	for _, a := range sets {
		for _, b := range sets {
			for _, symbol := range symbols {
				if union(a, b).has(symbol) != (a.has(symbol) || b.has(symbol)) {
					t.Errorf("union of %q and %q at %x", a, b, symbol)
				}
				if shared(a, b).has(symbol) != (a.has(symbol) && b.has(symbol)) {
					t.Errorf("shared of %q and %q at %x", a, b, symbol)
				}
				if a.others().has(symbol) == a.has(symbol) {
					t.Errorf("others of %q at %x", a, symbol)
				}
			}
			if union(a, b) != union(b, a) || shared(a, b) != shared(b, a) {
				t.Errorf("%q and %q the other way round", a, b)
			}
		}
	}
}

func TestHas(t *testing.T) {
	for _, c := range []struct {
		set     set
		symbols string
		has     bool
	}{
		{"bcee", "bce", true}, {"bcee", "adf\x00", false},
		{digitSymbols, "0123456789", true}, {digitSymbols, "/:a", false},
		{wordSymbols, "09AZ_azmM5", true}, {wordSymbols, "/:@[^`{é-", false},
		{noSymbols, "\x00a\U0010ffff", false}, {everySymbol, "\x00a\ud7ff\ue000\U0010ffff", true},
	} {
		for _, symbol := range c.symbols {
			if c.set.has(symbol) != c.has {
				t.Errorf("%q has %q: %v", c.set, symbol, !c.has)
			}
		}
	}
}

func TestBorders(t *testing.T) {
	for _, c := range []struct {
		set  set
		want []rune
	}{
		{noSymbols, []rune{0}},
		{everySymbol, []rune{0}},
		{"ac", []rune{0, 'a', 'd'}},
		{"\x00a", []rune{0, 'b'}},
		{"aacc", []rune{0, 'a', 'b', 'c', 'd'}},
		{"\x00\ud7ff", []rune{0, 0xe000}},
		{"\ud7ff\ud7ff", []rune{0, 0xd7ff, 0xe000}},
		{"a\U0010ffff", []rune{0, 'a'}},
		{"\U0010ffff\U0010ffff", []rune{0, lastSymbol}},
	} {
		if got := c.set.borders(); !slices.Equal(got, c.want) {
			t.Errorf("borders of %q: %x, want %x", c.set, got, c.want)
		}
	}
}
