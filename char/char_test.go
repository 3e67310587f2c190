package char

import (
	"math"
	"math/rand"
	"slices"
	"strings"
	"testing"
)

// A span of runes, as the chapter lists it.
type span struct {
	first, last rune
}

// A class, with its spans written out anew from the chapter, none of them taken from another class.
type class struct {
	name  string
	call  func(rune) bool
	spans []span
}

func classes() []class {
	start := []span{
		{0x41, 0x5a}, {0x61, 0x7a}, {0x5f, 0x5f},
		{0xc0, 0xd6}, {0xd8, 0xf6}, {0xf8, 0x2ff}, {0x370, 0x37d}, {0x37f, 0x1fff},
		{0x200c, 0x200c}, {0x200d, 0x200d}, {0x2070, 0x218f}, {0x2c00, 0x2fef}, {0x3001, 0xd7ff},
		{0xf900, 0xfdcf}, {0xfdf0, 0xfffd}, {0x10000, 0xeffff},
	}
	more := []span{{0x2d, 0x2d}, {0x2e, 0x2e}, {0x30, 0x39}, {0xb7, 0xb7}, {0x300, 0x36f}, {0x203f, 0x203f}, {0x2040, 0x2040}}
	return []class{
		{"Char", Char, []span{{0x9, 0x9}, {0xa, 0xa}, {0xd, 0xd}, {0x20, 0xd7ff}, {0xe000, 0xfffd}, {0x10000, 0x10ffff}}},
		{"Blank", Blank, []span{{0x9, 0x9}, {0xa, 0xa}, {0xd, 0xd}, {0x20, 0x20}}},
		{"Start", Start, start},
		{"Part", Part, slices.Concat(start, more)},
	}
}

func (c class) holds(r rune) bool {
	return slices.ContainsFunc(c.spans, func(s span) bool { return s.first <= r && r <= s.last })
}

func (c class) check(t *testing.T, r rune, want bool) {
	t.Helper()
	if c.call(r) != want {
		t.Errorf("%s(%x): not %v", c.name, r, want)
	}
}

// P2.1: of each span its first and its last rune are in the class; those just ahead and just behind are, if another span has them.
func TestSpans(t *testing.T) {
	for _, c := range classes() {
		for _, s := range c.spans {
			c.check(t, s.first, true)
			c.check(t, s.last, true)
			c.check(t, s.first-1, c.holds(s.first-1))
			c.check(t, s.last+1, c.holds(s.last+1))
		}
	}
}

// P2.1: the runes beside a span that no span has, written out one by one.
func TestBesideTheSpans(t *testing.T) {
	out := [][]rune{
		{0x8, 0xb, 0xc, 0xe, 0x1f, 0xd800, 0xdfff, 0xfffe, 0xffff, 0x110000},
		{0x8, 0xb, 0xc, 0xe, 0x1f, 0x21, 0x85, 0xa0, 0x2028, 0x3000, 0xfeff},
		{0x40, 0x5b, 0x5e, 0x60, 0x7b, 0xbf, 0xd7, 0xf7, 0x300, 0x36f, 0x37e, 0x2000, 0x200b, 0x200e, 0x206f,
			0x2190, 0x2bff, 0x2ff0, 0x3000, 0xd800, 0xf8ff, 0xfdd0, 0xfdef, 0xfffe, 0xffff, 0xf0000,
			0x2d, 0x2e, 0x30, 0x39, 0xb7, 0x203f, 0x2040},
		{0x2c, 0x2f, 0x3a, 0x40, 0x5b, 0x5e, 0x60, 0x7b, 0xb6, 0xb8, 0xbf, 0xd7, 0xf7, 0x37e, 0x2000, 0x200b, 0x200e,
			0x203e, 0x2041, 0x206f, 0x2190, 0x2bff, 0x2ff0, 0x3000, 0xd800, 0xf8ff, 0xfdd0, 0xfdef, 0xfffe, 0xffff, 0xf0000},
	}
	for i, c := range classes() {
		for _, r := range out[i] {
			c.check(t, r, false)
		}
	}
}

// P2.1: every rune, and numbers that are none.
func TestEveryRune(t *testing.T) {
	for _, c := range classes() {
		for r := rune(-0x1000); r <= 0x120000; r++ {
			c.check(t, r, c.holds(r))
		}
	}
}

// P2.1, P1: below 0, above 10ffff, and d800 to dfff nothing is in a class.
func TestNoRunes(t *testing.T) {
	none := []rune{math.MinInt32, math.MinInt32 + 0x20, -0x41, -0x20, -1, 0x110000, 0x110041, 0x200020, math.MaxInt32}
	for r := rune(0xd800); r <= 0xdfff; r++ {
		none = append(none, r)
	}
	for _, c := range classes() {
		for _, r := range none {
			c.check(t, r, false)
		}
	}
}

// P2.1: the colon stands in a text, and in no name.
func TestColon(t *testing.T) {
	if !Char(':') || Blank(':') || Start(':') || Part(':') {
		t.Error(Char(':'), Blank(':'), Start(':'), Part(':'))
	}
}

// P2.1: the chapter's example.
func TestExample(t *testing.T) {
	if !Start(0xe9) || !Part(0xe9) || Start(0xb7) || !Part(0xb7) {
		t.Error(Start(0xe9), Part(0xe9), Start(0xb7), Part(0xb7))
	}
}

// P2.2: what follows, for every rune from 0 to 10ffff.
func TestWhatFollows(t *testing.T) {
	for r := rune(0); r <= 0x10ffff; r++ {
		if Start(r) && !Part(r) {
			t.Errorf("%x begins a name, and may not stand in one", r)
		}
		if (Part(r) || Blank(r)) && !Char(r) {
			t.Errorf("%x may not stand in a text", r)
		}
		if Blank(r) && Part(r) {
			t.Errorf("%x is a blank, and stands in a name", r)
		}
	}
}

type allCase struct {
	s    string
	in   []func(rune) bool
	want bool
}

func checkAll(t *testing.T, cases []allCase) {
	t.Helper()
	for _, c := range cases {
		if All(c.s, c.in...) != c.want {
			t.Errorf("%q of %d classes: not %v", c.s, len(c.in), c.want)
		}
	}
}

func of(in ...func(rune) bool) []func(rune) bool { return in }

// P2.1: All without classes asks whether the text is empty.
func TestAllWithoutClasses(t *testing.T) {
	checkAll(t, []allCase{
		{"", nil, true}, {"", of(), true},
		{"a", nil, false}, {" ", of(), false}, {"\x00", nil, false}, {"\xff", nil, false}, {"é", of(), false},
	})
	if !All("") || All("a") {
		t.Error("no list")
	}
}

// P2.1: All with one class and with several, at each place of the text.
func TestAllOfClasses(t *testing.T) {
	checkAll(t, []allCase{
		{"", of(Start), true}, {"", of(Char, Blank), true},
		{"abc", of(Start), true}, {"_é", of(Start), true}, {"\U00010000", of(Start), true},
		{"1bc", of(Start), false}, {"a1c", of(Start), false}, {"ab1", of(Start), false},
		{"a-1.·", of(Part), true}, {"a:b", of(Part), false},
		{" \t\r\n", of(Blank), true}, {" \t\v", of(Blank), false}, {"\u00a0", of(Blank), false},
		{"a b", of(Blank, Start), true}, {"a b", of(Start, Blank), true}, {"a b", of(Start), false}, {"a b", of(Blank), false},
		{"a1", of(Blank, Start), false}, {"a1 b", of(Blank, Start, Part), true}, {"a1 b:", of(Blank, Start, Part), false},
		{"<&>", of(Char), true}, {"<\x00>", of(Char), false}, {"\ufffe", of(Char), false}, {"\ufffd", of(Char), true},
		{"aa", of(Start, Start), true}, {strings.Repeat("a", 1<<16) + " ", of(Start), false},
	})
}

// P2.1: bytes that are no rune's count as fffd, which may stand in a text and begin a name, and is no blank.
func TestAllOfWrongBytes(t *testing.T) {
	subst := func(r rune) bool { return r == 0xfffd }
	for _, s := range []string{"\xff", "\x80", "\xc3", "\xc0\x80", "\xe2\x82", "\xed\xa0\x80", "\xf4\x90\x80\x80", "\xf0\x9f\x98", "\xff\xfe"} {
		checkAll(t, []allCase{
			{s, nil, false}, {s, of(subst), true}, {s, of(Char), true}, {s, of(Start), true}, {s, of(Part), true}, {s, of(Blank), false},
			{" " + s, of(Blank), false}, {s + " ", of(Blank, subst), true}, {s + " ", of(Start), false}, {"a" + s + "1", of(Part), true},
		})
	}
}

// P2.1: All asks of whole runes, in a model that hears each rune of the text.
func TestAllOfTexts(t *testing.T) {
	pieces := []string{"a", "Z", "_", "-", "7", ":", " ", "\n", "\x00", "·", "é", "×", "\u0300", "\u2003", "€", "\ufffe", "\U000f0000", "\xff", "\xe2\x82"}
	some := rand.New(rand.NewSource(1))
	list := classes()
	for range 20000 {
		var b strings.Builder
		for range some.Intn(4) {
			b.WriteString(pieces[some.Intn(len(pieces))])
		}
		var chosen []class
		var in []func(rune) bool
		for range some.Intn(4) {
			c := list[some.Intn(len(list))]
			chosen, in = append(chosen, c), append(in, c.call)
		}
		outside := func(r rune) bool {
			return !slices.ContainsFunc(chosen, func(c class) bool { return c.holds(r) })
		}
		s := b.String()
		checkAll(t, []allCase{{s, in, !slices.ContainsFunc([]rune(s), outside)}})
	}
}

// P1: a class that is nil holds nothing.
func TestAllOfNil(t *testing.T) {
	checkAll(t, []allCase{{"", of(nil), true}, {"a", of(nil), false}, {"a", of(nil, Start), true}, {"a", of(Blank, nil), false}})
}
