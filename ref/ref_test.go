package ref

import (
	"math/rand"
	"regexp"
	"strconv"
	"strings"
	"testing"
	"unicode/utf8"

	"oriel/api"
	"oriel/char"
)

// reads holds what both ways of reading answer of a text that can be read.
func reads(t *testing.T, s, text, value string) {
	t.Helper()
	if got, at, err := Text(s); got != text || at != 0 || err != api.OK {
		t.Errorf("Text of %q: %q, %d, %d; not %q, 0, 0", s, got, at, err, text)
	}
	if got, at, err := Value(s); got != value || at != 0 || err != api.OK {
		t.Errorf("Value of %q: %q, %d, %d; not %q, 0, 0", s, got, at, err, value)
	}
}

// fails holds what both ways of reading answer of a text that can't be read.
func fails(t *testing.T, s string, at int, err api.Errno) {
	t.Helper()
	if got, where, e := Text(s); got != "" || where != at || e != err {
		t.Errorf("Text of %q: %q, %d, %d; not an empty text, %d, %d", s, got, where, e, at, err)
	}
	if got, where, e := Value(s); got != "" || where != at || e != err {
		t.Errorf("Value of %q: %q, %d, %d; not an empty text, %d, %d", s, got, where, e, at, err)
	}
}

// P4.1: texts that stand for themselves, and references by name.
func TestNamedReferences(t *testing.T) {
	for _, x := range [][2]string{
		{"", ""},
		{"a", "a"},
		{"a b;c#x41;<>'\"]]>", "a b;c#x41;<>'\"]]>"},
		{"\u00e9\ufffd\U0010ffff \x7f\u0085\u2028", "\u00e9\ufffd\U0010ffff \x7f\u0085\u2028"},
		{"&lt;", "<"},
		{"&gt;", ">"},
		{"&amp;", "&"},
		{"&apos;", "'"},
		{"&quot;", "\""},
		{"&lt;&gt;&amp;&apos;&quot;", "<>&'\""},
		{"a&lt;&#233;", "a<\u00e9"},
		{"&lt;;", "<;"},
		{"&amp;lt;", "&lt;"},
		{"&amp;#65;", "&#65;"},
		{"&#38;lt;", "&lt;"},
		{"&#x26;amp;", "&amp;"},
		{"\u00e9&amp;\u00e9", "\u00e9&\u00e9"},
	} {
		reads(t, x[0], x[1], x[1])
	}
}

// P4.1: references by number, up to eight digits.
func TestNumberedReferences(t *testing.T) {
	for _, x := range []struct {
		s string
		r rune
	}{
		{"&#9;", 9}, {"&#x9;", 9}, {"&#65;", 'A'}, {"&#x41;", 'A'}, {"&#32;", ' '}, {"&#x20;", ' '},
		{"&#60;", '<'}, {"&#x3c;", '<'}, {"&#x3C;", '<'}, {"&#38;", '&'},
		{"&#xaf;", 0xaf}, {"&#xAF;", 0xaf}, {"&#xaF;", 0xaf}, {"&#xabcde;", 0xabcde}, {"&#xEFfE;", 0xeffe},
		{"&#09;", 9}, {"&#0000009;", 9}, {"&#00000009;", 9}, {"&#00000065;", 'A'}, {"&#x00000041;", 'A'},
		{"&#xd7ff;", 0xd7ff}, {"&#xe000;", 0xe000}, {"&#xfffd;", 0xfffd}, {"&#65533;", 0xfffd},
		{"&#x10000;", 0x10000}, {"&#65536;", 0x10000}, {"&#x10ffff;", 0x10ffff}, {"&#x0010FFFF;", 0x10ffff}, {"&#01114111;", 0x10ffff}, {"&#1114111;", 0x10ffff},
	} {
		reads(t, "a"+x.s+"b", "a"+string(x.r)+"b", "a"+string(x.r)+"b")
		reads(t, x.s+x.s, string(x.r)+string(x.r), string(x.r)+string(x.r))
	}
}

// P4.1: each rune's number, decimal and hexadecimal, is its reference if it may stand in a text, and none else.
func TestEachNumber(t *testing.T) {
	for r := rune(0); r <= utf8.MaxRune+0x100; r++ {
		for _, s := range []string{"&#" + strconv.Itoa(int(r)) + ";", "&#x" + strconv.FormatInt(int64(r), 16) + ";"} {
			want, where, wrong := string(r), 0, api.OK
			if !char.Char(r) {
				want, where, wrong = "", 1, api.ErrRef
			} else {
				want = "a" + want
			}
			if got, at, err := Text("a" + s); got != want || at != where || err != wrong {
				t.Fatalf("Text of a, %q: %q, %d, %d", s, got, at, err)
			}
			if got, at, err := Value("a" + s); got != want || at != where || err != wrong {
				t.Fatalf("Value of a, %q: %q, %d, %d", s, got, at, err)
			}
		}
	}
}

// P4.1: a & with which no reference begins.
func TestNoReference(t *testing.T) {
	for _, s := range []string{
		"&", "&;", "& ;", "&&", "&&lt;", "& lt;", "&lt ;", "&l", "&lt", "&lt&gt;", "&a", "&a;", "&ltt;", "&l;", "&lt\n;", "&\r;",
		"&LT;", "&Lt;", "&nbsp;", "&xml;", "&\u00e9;", "&lt,;", "&quote;", "&apo;", "&am;p;",
		"&#", "&#;", "&#x", "&#x;", "&# ;", "&#x ;", "&##65;", "&#65", "&#x41", "&#6", "&#65 ;", "&# 65;", "&#x 41;", "&#65a;", "&#6", "&x41;", "&65;",
		"&#a;", "&#A;", "&#4f;", "&#xg;", "&#x4G;", "&#X41;", "&#xx41;", "&#0x41;", "&#x0x41;", "&#-65;", "&#+65;", "&#x+41;", "&#x-41;",
		"&#6_5;", "&#x4_1;", "&#1e2;", "&#6.0;", "&#\u0666;", "&#\uff16;", "&#xlt;", "&#lt;",
		"&#0;", "&#x0;", "&#00000000;", "&#1;", "&#x8;", "&#xb;", "&#xc;", "&#xe;", "&#31;", "&#x1f;",
		"&#xd800;", "&#xDFFF;", "&#55296;", "&#xfffe;", "&#xFFFF;", "&#65535;",
		"&#x110000;", "&#xFABCDE;", "&#1114112;", "&#99999999;", "&#x7fffffff;", "&#x80000000;", "&#x80000041;", "&#xFFFFFFFF;", "&#xffffffbf;",
		"&#000000065;", "&#x000000041;", "&#000000000;", "&#123456789;", "&#x100000041;", "&#4294967361;", "&#18446744073709551681;", "&#x10000000000000041;",
		"&#" + strings.Repeat("0", 70000) + "65;",
		"&lt" + strings.Repeat("a", 70000) + ";",
		"&\x01;", "&#\x01;", "&\xff;", "&#x4\xc3", "&l\xc3", "&lt\x00;", "&#65\xff;",
	} {
		fails(t, s, 0, api.ErrRef)
		fails(t, "a"+s, 1, api.ErrRef)
		fails(t, "\u00e9\r\n&amp;"+s+"&gt;\x01\xff&", 9, api.ErrRef)
	}
}

// P4.1: line ends, as bytes and beside references; in a value, 9 and a are blanks if they stand as bytes.
func TestLineEnds(t *testing.T) {
	for _, x := range []struct{ s, text, value string }{
		{"\r\n", "\n", " "},
		{"\r", "\n", " "},
		{"\n", "\n", " "},
		{"\t", "\t", " "},
		{" ", " ", " "},
		{"\r\r\n", "\n\n", "  "},
		{"\r\n\n", "\n\n", "  "},
		{"\r\n\r\n", "\n\n", "  "},
		{"\r\n\r", "\n\n", "  "},
		{"\n\r", "\n\n", "  "},
		{"\r\r", "\n\n", "  "},
		{"\r\t\n", "\n\t\n", "   "},
		{"a\r\nb\rc\nd", "a\nb\nc\nd", "a b c d"},
		{"a\r", "a\n", "a "},
		{"a\t\tb", "a\t\tb", "a  b"},
		{"\r\u00e9", "\n\u00e9", " \u00e9"},
		{"&#xD;", "\r", "\r"},
		{"&#13;", "\r", "\r"},
		{"&#xA;", "\n", "\n"},
		{"&#10;", "\n", "\n"},
		{"&#x9;", "\t", "\t"},
		{"&#9;", "\t", "\t"},
		{"&#x20;", " ", " "},
		{"&#xD;&#xA;", "\r\n", "\r\n"},
		{"&#xD;\n", "\r\n", "\r "},
		{"\r&#xA;", "\n\n", " \n"},
		{"&#xD;\r\n", "\r\n", "\r "},
		{"\r&#xD;\n", "\n\r\n", " \r "},
		{"\r\n&#xA;", "\n\n", " \n"},
		{"&#xA;\r", "\n\n", "\n "},
		{"&#xD;&#xD;&#xA;", "\r\r\n", "\r\r\n"},
		{"\t&#9;\n&#10;\r&#13;", "\t\t\n\n\n\r", " \t \n \r"},
		{"a&#xD;", "a\r", "a\r"},
	} {
		reads(t, x.s, x.text, x.value)
	}
}

// P4.1: runes that may not stand in a text, and bytes that are no rune's.
func TestWhatMayNotStand(t *testing.T) {
	for _, s := range []string{"\x00", "\x01", "\x08", "\x0b", "\x0c", "\x0e", "\x1f", "\ufffe", "\uffff"} {
		fails(t, s, 0, api.ErrChar)
		fails(t, "\u00e9"+s, 2, api.ErrChar)
		fails(t, "\r\n&amp;"+s+"a", 7, api.ErrChar)
	}
	for _, s := range []string{"\xff", "\x80", "\xbf", "\xc0\x80", "\xc1", "\xc3a", "\xc3\xc3", "\xc3&lt;", "\xc3\r", "\xe0\x80\x80", "\xe2\x82a", "\xed\xa0\x80", "\xf0\x80\x80\x80", "\xf4\x90\x80\x80", "\xf5"} {
		fails(t, s, 0, api.ErrUtf)
		fails(t, "\u00e9"+s, 2, api.ErrUtf)
		fails(t, "\t&#65;"+s+"&\x01", 6, api.ErrUtf)
	}
	for _, s := range []string{"\xc3", "\xdf", "\xe2", "\xe2\x82", "\xed\x9f", "\xf0", "\xf0\x9f", "\xf0\x9f\x98", "\xf4\x8f\xbf"} {
		fails(t, s, 0, api.ErrCut)
		fails(t, "\u00e9"+s, 2, api.ErrCut)
		fails(t, "\r&quot;"+s, 7, api.ErrCut)
		fails(t, s+"a", 0, api.ErrUtf)
	}
}

// P4.1: each rune as it stands is read or is not, as it may stand in a text or not.
func TestEachRune(t *testing.T) {
	for r := rune(0); r <= utf8.MaxRune; r++ {
		if !utf8.ValidRune(r) || char.Blank(r) || r == '&' {
			continue
		}
		s := "a" + string(r)
		want, where, wrong := s, 0, api.OK
		if !char.Char(r) {
			want, where, wrong = "", 1, api.ErrChar
		}
		if got, at, err := Text(s); got != want || at != where || err != wrong {
			t.Fatalf("Text of a, %x: %q, %d, %d", r, got, at, err)
		}
		if got, at, err := Value(s); got != want || at != where || err != wrong {
			t.Fatalf("Value of a, %x: %q, %d, %d", r, got, at, err)
		}
	}
}

// P4.1: of several things that can't be read the first is told, whichever it is.
func TestFirstOfSeveral(t *testing.T) {
	wrong := []struct {
		s   string
		err api.Errno
	}{{"\xff", api.ErrUtf}, {"\xe2\x82 ", api.ErrUtf}, {"\x02", api.ErrChar}, {"\uffff", api.ErrChar}, {"&", api.ErrRef}, {"&x;", api.ErrRef}, {"&#0;", api.ErrRef}}
	for _, a := range wrong {
		for _, b := range wrong {
			fails(t, a.s+b.s, 0, a.err)
			fails(t, "ab&lt;"+a.s+" "+b.s, 6, a.err)
		}
		fails(t, "\r\n"+a.s+"\xe2\x82", 2, a.err)
	}
}

// P4.1: what is escaped, what is escaped in a value only, and what stays.
func TestEscapeAndQuote(t *testing.T) {
	for _, x := range []struct{ s, escaped, quoted string }{
		{"", "", ""},
		{"a", "a", "a"},
		{"&", "&amp;", "&amp;"},
		{"<", "&lt;", "&lt;"},
		{">", "&gt;", "&gt;"},
		{"\r", "&#xD;", "&#xD;"},
		{"\"", "\"", "&quot;"},
		{"\t", "\t", "&#x9;"},
		{"\n", "\n", "&#xA;"},
		{"'", "'", "'"},
		{" ", " ", " "},
		{"\r\n", "&#xD;\n", "&#xD;&#xA;"},
		{"&amp;", "&amp;amp;", "&amp;amp;"},
		{"a<b>&\r\"\n", "a&lt;b&gt;&amp;&#xD;\"\n", "a&lt;b&gt;&amp;&#xD;&quot;&#xA;"},
		{"\u00e9<\U0001f600]]>", "\u00e9&lt;\U0001f600]]&gt;", "\u00e9&lt;\U0001f600]]&gt;"},
		{"\xff<\xc3", "\xff&lt;\xc3", "\xff&lt;\xc3"},
		{"\xe2\x82&\xe2", "\xe2\x82&amp;\xe2", "\xe2\x82&amp;\xe2"},
		{"\x00\x01\uffff\xc0\x80\xed\xa0\x80", "\x00\x01\uffff\xc0\x80\xed\xa0\x80", "\x00\x01\uffff\xc0\x80\xed\xa0\x80"},
	} {
		if got := Escape(x.s); got != x.escaped {
			t.Errorf("Escape of %q: %q, not %q", x.s, got, x.escaped)
		}
		if got := Quote(x.s); got != x.quoted {
			t.Errorf("Quote of %q: %q, not %q", x.s, got, x.quoted)
		}
	}
	for b := range 256 {
		s := string([]byte{byte(b)})
		if !strings.Contains("&<>\r", s) && Escape(s+s) != s+s {
			t.Errorf("Escape of %x: %q", b, Escape(s+s))
		}
		if !strings.Contains("&<>\r\"\t\n", s) && Quote(s+s) != s+s {
			t.Errorf("Quote of %x: %q", b, Quote(s+s))
		}
	}
}

// reading answers what the chapter's words say, by a pattern instead of going byte by byte.
type reading struct {
	reference *regexp.Regexp
	value     bool
}

func (x reading) of(s string) (string, int, api.Errno) {
	got := ""
	for at := 0; at < len(s); {
		rest := s[at:]
		if m := x.reference.FindStringSubmatch(rest); m != nil {
			r := x.number(m)
			if !char.Char(r) {
				return "", at, api.ErrRef
			}
			got += string(r)
			at += len(m[0])
			continue
		}
		r, n := utf8.DecodeRuneInString(rest)
		switch {
		case r == '&':
			return "", at, api.ErrRef
		case r == utf8.RuneError && n == 1 && !utf8.FullRuneInString(rest):
			return "", at, api.ErrCut
		case r == utf8.RuneError && n == 1:
			return "", at, api.ErrUtf
		case !char.Char(r):
			return "", at, api.ErrChar
		case strings.HasPrefix(rest, "\r\n"):
			r, n = '\n', 2
		case r == '\r':
			r = '\n'
		}
		if x.value && (r == '\n' || r == '\t') {
			r = ' '
		}
		got += string(r)
		at += n
	}
	return got, 0, api.OK
}

func (x reading) number(m []string) rune {
	for i, name := range []string{"lt", "gt", "amp", "apos", "quot"} {
		if m[1] == name {
			return rune("<>&'\""[i])
		}
	}
	if m[2] != "" {
		n, _ := strconv.ParseInt(m[2], 10, 64)
		return rune(min(n, utf8.MaxRune+1))
	}
	n, _ := strconv.ParseInt(m[3], 16, 64)
	return rune(min(n, utf8.MaxRune+1))
}

// made makes a text of pieces that stand at the edges of what can be read.
func made(chance *rand.Rand) string {
	pieces := []string{
		"a", "\u00e9", "\U0001f600", "\r", "\n", "\t", " ", "&", ";", "#", "x", "0", "9", "a", "F", "\"", "<",
		"&lt;", "&gt;", "&amp;", "&apos;", "&quot;", "&#xD;", "&#xA;", "&#x9;", "&#13;", "&#10;", "&#9;", "&#65;", "&#x", "&#", "&#0", "&#x0000",
	}
	if chance.Intn(3) == 0 {
		pieces = append(pieces, "\x01", "\uffff", "\xff", "\xc3", "\xe2\x82", "\xa9", "\xed", "&#0;", "&#xD800;", "lt;")
	}
	s := ""
	for range chance.Intn(12) {
		s += pieces[chance.Intn(len(pieces))]
	}
	return s
}

// P4.1: many texts, against the chapter's words tried out anew.
func TestAgainstTheWords(t *testing.T) {
	reference := regexp.MustCompile(`^&(?:(lt|gt|amp|apos|quot)|#([0-9]{1,8})|#x([0-9a-fA-F]{1,8}));`)
	chance := rand.New(rand.NewSource(4))
	seen := map[api.Errno]int{}
	for range 200000 {
		s := made(chance)
		want, where, wrong := reading{reference, false}.of(s)
		if got, at, err := Text(s); got != want || at != where || err != wrong {
			t.Fatalf("Text of %q: %q, %d, %d; not %q, %d, %d", s, got, at, err, want, where, wrong)
		}
		seen[wrong]++
		want, where, wrong = reading{reference, true}.of(s)
		if got, at, err := Value(s); got != want || at != where || err != wrong {
			t.Fatalf("Value of %q: %q, %d, %d; not %q, %d, %d", s, got, at, err, want, where, wrong)
		}
	}
	for _, err := range []api.Errno{api.OK, api.ErrUtf, api.ErrChar, api.ErrRef, api.ErrCut} {
		if seen[err] < 1000 {
			t.Errorf("too few texts answer %d: %d", err, seen[err])
		}
	}
}

// P4.2: what is escaped is read as it was, by each in its way.
func TestReadBack(t *testing.T) {
	back := func(s string) {
		t.Helper()
		if got, at, err := Text(Escape(s)); got != s || at != 0 || err != api.OK {
			t.Fatalf("Text of Escape of %q: %q, %d, %d", s, got, at, err)
		}
		if got, at, err := Value(Quote(s)); got != s || at != 0 || err != api.OK {
			t.Fatalf("Value of Quote of %q: %q, %d, %d", s, got, at, err)
		}
		if got, at, err := Text(Quote(s)); got != s || at != 0 || err != api.OK {
			t.Fatalf("Text of Quote of %q: %q, %d, %d", s, got, at, err)
		}
	}
	for r := rune(0); r <= utf8.MaxRune; r++ {
		if char.Char(r) {
			back("a" + string(r))
		}
	}
	for _, s := range []string{"", "&", "&amp;", "&#xD;", "\r\n", "\r\r\n", "\n\r", "\t\n\r \"'<>&", "&lt;\r", "]]>", "&#x9;\t"} {
		back(s)
	}
	chance := rand.New(rand.NewSource(42))
	for range 50000 {
		s := made(chance)
		if utf8.ValidString(s) && char.All(s, char.Char) {
			back(s)
		}
	}
}

// P4.2: of a text that can be read, without & and d, Text is the text itself.
func TestTextOfItself(t *testing.T) {
	chance := rand.New(rand.NewSource(24))
	for range 50000 {
		s := strings.NewReplacer("&", "+", "\r", "").Replace(made(chance))
		if !utf8.ValidString(s) || !char.All(s, char.Char) {
			continue
		}
		if got, at, err := Text(s); got != s || at != 0 || err != api.OK {
			t.Fatalf("Text of %q: %q, %d, %d", s, got, at, err)
		}
	}
}

// P1: the calls end, and none panics, at each text of up to three bytes of those that matter and at long ones.
func TestEnds(t *testing.T) {
	ends := func(s string) {
		for _, f := range []func(string) (string, int, api.Errno){Text, Value} {
			got, at, err := f(s)
			if err == api.OK && at != 0 || err != api.OK && (got != "" || at < 0 || at >= len(s)) {
				t.Fatalf("%.20q: %.20q, %d, %d", s, got, at, err)
			}
		}
		if len(Escape(s)) < len(s) || len(Quote(s)) < len(Escape(s)) {
			t.Fatalf("%.20q is escaped to less", s)
		}
	}
	texts := []string{""}
	for range 3 {
		for _, s := range texts {
			ends(s)
		}
		texts = longer(texts, "&;#x0aF\r\n\t <\"\x00\x80\xc3\xe2\xf0\xff")
	}
	for _, s := range texts {
		ends(s)
	}
	for _, piece := range []string{"&", "&lt;", "\r\n", "\u00e9", "&#65;", "\xff"} {
		ends(strings.Repeat(piece, 1<<16))
	}
}

// longer lays each of the bytes behind each of the texts.
func longer(texts []string, bytes string) []string {
	var l []string
	for _, s := range texts {
		for i := range len(bytes) {
			l = append(l, s+bytes[i:i+1])
		}
	}
	return l
}
