package name

import (
	"math"
	"math/rand"
	"strings"
	"testing"
	"unicode/utf8"

	"oriel/char"
)

// P3.1: Plain at texts written out one by one.
func TestPlain(t *testing.T) {
	yes := []string{
		"a", "Z", "_", "ab", "a1", "a-", "a.", "a.-1_", "xml", "\u00e9", "\u00e9\u00b7\u00e9", "a\u0300", "a\u203f\u2040",
		"\u200c", "\U00010000", "\U000effff", "a\U000effff", "\u3001\ud7ff", "\ufffd", "a\ufffd",
		"\xff", "a\xff", "\xffa", "\xc3", "a\xc3", "\xa9", "a\xa9b", "\xed\xa0\x80",
	}
	for _, s := range yes {
		if !Plain(s) {
			t.Errorf("%q is a plain name", s)
		}
	}
	no := []string{
		"",
		"-a", ".a", "1a", "1", "-", ".", "\u00b7a", "\u0300a", "\u203fa", "\u2040",
		" a", "a b", "a ", " ", "\ta", "a\nb", "a\r", "=a", "a=b", "a=", "/a", "a/b", "a>", "a\x00", "\x00",
		"\u00d7", "a\u00d7b", "a\u00d7", "\u037ea", "a\ufffe", "a\U000f0000", "\xff ", " \xff",
		":", ":a", "a:", "a:b", "a:b:c",
	}
	for _, s := range no {
		if Plain(s) {
			t.Errorf("%q is no plain name", s)
		}
	}
}

// P3.1: a text of one rune is a plain name if the rune may begin one; behind an a, if it may stand in one. Every rune is asked.
func TestPlainOfEachRune(t *testing.T) {
	for r := rune(0); r <= utf8.MaxRune; r++ {
		if !utf8.ValidRune(r) {
			continue
		}
		s := string(r)
		if Plain(s) != char.Start(r) {
			t.Errorf("Plain of %x: not %v", r, char.Start(r))
		}
		if Plain("a"+s) != char.Part(r) || Plain("a"+s+"a") != char.Part(r) {
			t.Errorf("Plain of a, %x: not %v", r, char.Part(r))
		}
	}
}

// P3.1: Split at texts written out one by one.
func TestSplit(t *testing.T) {
	for _, x := range []struct {
		s, prefix, local string
		ok               bool
	}{
		{"a", "", "a", true},
		{"ab-1.", "", "ab-1.", true},
		{"\u00e9", "", "\u00e9", true},
		{"\xff", "", "\xff", true},
		{"a:b", "a", "b", true},
		{"xmlns:a1", "xmlns", "a1", true},
		{"\u00e9:\U00010000\u00b7", "\u00e9", "\U00010000\u00b7", true},
		{"_:_", "_", "_", true},
		{"\xff:\xa9", "\xff", "\xa9", true},

		{"", "", "", false},
		{"1", "", "", false},
		{"-a", "", "", false},
		{"a b", "", "", false},
		{"a=", "", "", false},
		{":", "", "", false},
		{"::", "", "", false},
		{":a", "", "", false},
		{"a:", "", "", false},
		{"1:b", "", "", false},
		{"a:1", "", "", false},
		{"-a:b", "", "", false},
		{"a:-b", "", "", false},
		{"a :b", "", "", false},
		{"a: b", "", "", false},
		{" a:b", "", "", false},
		{"a:b ", "", "", false},
		{"a\u00d7:b", "", "", false},
		{"a:\u00b7", "", "", false},
		{"a:b:c", "", "", false},
		{"a::b", "", "", false},
		{":a:b", "", "", false},
		{"::a", "", "", false},
		{"a::", "", "", false},
		{"a:b:", "", "", false},
	} {
		prefix, local, ok := Split(x.s)
		if prefix != x.prefix || local != x.local || ok != x.ok {
			t.Errorf("Split(%q): %q, %q, %v", x.s, prefix, local, ok)
		}
	}
}

// P3.1: Join asks of no form; an empty prefix brings no colon.
func TestJoin(t *testing.T) {
	for _, x := range []struct{ prefix, local, want string }{
		{"a", "b", "a:b"},
		{"\u00e9", "\u00e9", "\u00e9:\u00e9"},
		{"", "b", "b"},
		{"", "", ""},
		{"a", "", "a:"},
		{"", "a:b", "a:b"},
		{"a:b", "c", "a:b:c"},
		{":", ":", ":::"},
		{"1 ", "\xff", "1 :\xff"},
	} {
		if got := Join(x.prefix, x.local); got != x.want {
			t.Errorf("Join(%q, %q): %q", x.prefix, x.local, got)
		}
	}
}

// P3.1: Cut at texts and places written out one by one.
func TestCut(t *testing.T) {
	for _, x := range []struct {
		s    string
		at   int
		want string
		to   int
	}{
		{"abc=1", 0, "abc", 3},
		{"abc=1", 1, "bc", 3},
		{"abc=1", 3, "", 3},
		{"abc=1", 4, "1", 5},
		{"abc=1", 5, "", 5},
		{"abc=1", 6, "", 6},
		{"abc=1", -1, "", -1},
		{"abc", math.MaxInt, "", math.MaxInt},
		{"abc", math.MinInt, "", math.MinInt},
		{"", 0, "", 0},
		{"", 1, "", 1},
		{"", -1, "", -1},
		{" a", 0, "", 0},
		{"a b", 0, "a", 1},
		{"-.1\u00b7 ", 0, "-.1\u00b7", 5},
		{"a:b c", 0, "a:b", 3},
		{":a", 0, ":a", 2},
		{"a: ", 0, "a:", 2},
		{"::a::b:/", 0, "::a::b:", 7},
		{"a:b", 1, ":b", 3},
		{"<\u00e9:\u00e9>", 1, "\u00e9:\u00e9", 6},
		{"\U00010000a>", 0, "\U00010000a", 5},
		{"a\u00d7b", 0, "a", 1},
		{"a\u00d7b", 3, "b", 4},
		// Within a rune's bytes, what is left of them is no rune's, and is had as fffd, which may stand in a name.
		{"\u00e9b>", 1, "\xa9b", 3},
		{"\u20ac>", 1, "\x82\xac", 3},
		{"a\u00d7b", 2, "\x97b", 4},
		{"a\xff\xfe>", 0, "a\xff\xfe", 3},
		{"\ufffd\xc3", 0, "\ufffd\xc3", 4},
	} {
		if got, to := Cut(x.s, x.at); got != x.want || to != x.to {
			t.Errorf("Cut(%q, %d): %q, %d", x.s, x.at, got, to)
		}
	}
}

// runeList has the runes of s as a range over it has them, and where each begins.
func runeList(s string) ([]rune, []int) {
	var l []rune
	var places []int
	for at, r := range s {
		l, places = append(l, r), append(places, at)
	}
	return l, append(places, len(s))
}

// plainByWord is Plain, as the chapter's words have it.
func plainByWord(s string) bool {
	l, _ := runeList(s)
	return len(l) > 0 && char.Start(l[0]) && char.All(s, char.Part)
}

// cutByWord is Cut, by trying each stretch from the longest on.
func cutByWord(s string, at int) (string, int) {
	if at < 0 || at > len(s) {
		return "", at
	}
	_, places := runeList(s[at:])
	for i := len(places) - 1; i >= 0; i-- {
		stretch := s[at : at+places[i]]
		if char.All(stretch, char.Part, func(r rune) bool { return r == ':' }) {
			return stretch, at + places[i]
		}
	}
	panic("the empty stretch is always one")
}

// texts hands each text of at most three pieces, and long ones by chance, to f.
func texts(f func(string)) {
	pieces := []string{"a", "B_", "1", "-", ":", ":", " ", "=", "\u00e9", "\u00b7", "\u00d7", "\U00010000", "\ufffe", "\xff", "\xc3", "\xa9", "\xf0\x90"}
	f("")
	for _, x := range pieces {
		f(x)
		for _, y := range pieces {
			f(x + y)
			for _, z := range pieces {
				f(x + y + z)
			}
		}
	}
	chance := rand.New(rand.NewSource(3))
	for range 20000 {
		var b strings.Builder
		for range chance.Intn(9) {
			b.WriteString(pieces[chance.Intn(len(pieces))])
		}
		f(b.String())
	}
}

// P3.1, and P1 of the document: every call ends without a panic, and answers what the chapter's words say.
func TestByWord(t *testing.T) {
	texts(func(s string) {
		if Plain(s) != plainByWord(s) {
			t.Errorf("Plain(%q): %v", s, Plain(s))
		}
		_, _, ok := Split(s)
		parts := strings.Split(s, ":")
		want := len(parts) <= 2 && plainByWord(parts[0]) && plainByWord(parts[len(parts)-1])
		if ok != want {
			t.Errorf("Split(%q): %v", s, ok)
		}
		for at := -2; at <= len(s)+2; at++ {
			got, to := Cut(s, at)
			if stretch, end := cutByWord(s, at); got != stretch || to != end {
				t.Errorf("Cut(%q, %d): %q, %d", s, at, got, to)
			}
		}
	})
}

// P3.2: what is split and joined is as it was, and the parts are plain names; of what is no name there are no parts.
func TestSplitAndJoined(t *testing.T) {
	names, prefixes := 0, 0
	texts(func(s string) {
		prefix, local, ok := Split(s)
		if !ok {
			if prefix != "" || local != "" {
				t.Errorf("%q is no name: %q, %q", s, prefix, local)
			}
			return
		}
		names++
		if Join(prefix, local) != s {
			t.Errorf("%q joined: %q", s, Join(prefix, local))
		}
		if prefix != "" {
			prefixes++
		}
		if prefix != "" && !Plain(prefix) || !Plain(local) {
			t.Errorf("%q: %q, %q", s, prefix, local)
		}
		if (prefix != "") != strings.Contains(s, ":") {
			t.Errorf("%q: prefix %q", s, prefix)
		}
	})
	if prefixes == 0 || names == prefixes {
		t.Errorf("of %d names, %d with a prefix", names, prefixes)
	}
}

// P3.2: two plain names, joined and split, are as they were; so is one alone.
func TestJoinedAndSplit(t *testing.T) {
	plain := []string{"a", "_1", "\u00e9\u00b7", "\xff", "\U00010000", "xmlns", "a.b-c"}
	for _, local := range plain {
		for _, prefix := range append([]string{""}, plain...) {
			p, l, ok := Split(Join(prefix, local))
			if p != prefix || l != local || !ok {
				t.Errorf("%q and %q: %q, %q, %v", prefix, local, p, l, ok)
			}
		}
	}
}

// P3.1: a stretch that is cut from a name's beginning is the name.
func TestCutOfNames(t *testing.T) {
	texts(func(s string) {
		if _, _, ok := Split(s); !ok {
			return
		}
		for _, behind := range []string{"", " ", "=\"", "/>", "\u00d7"} {
			if got, to := Cut("<"+s+behind, 1); got != s || to != 1+len(s) {
				t.Errorf("%q: %q, %d", s, got, to)
			}
		}
	})
}
