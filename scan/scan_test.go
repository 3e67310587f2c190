package scan

import (
	"math/rand"
	"regexp"
	"slices"
	"strings"
	"testing"
	"unicode/utf8"

	"oriel/api"
	"oriel/char"
	"oriel/name"
	"oriel/ref"
)

// A rune that may not stand in a text, and bytes that are no rune's, lie behind a token that they are not of.
const junk = "\x01\xff"

// tells holds what Next answers at a place of s.
func tells(t *testing.T, s string, at int, want api.Token, to int) {
	t.Helper()
	if got, next, err := Next(s, at); got != want || next != to || err != api.OK {
		t.Errorf("Next of %.60q, %d: %+v, %d, %d; not %+v, %d, 0", s, at, got, next, err, want, to)
	}
}

// moreTells holds what More answers at a place of s.
func moreTells(t *testing.T, s string, at int, want api.Token, to int) {
	t.Helper()
	if got, next, err := More(s, at); got != want || next != to || err != api.OK {
		t.Errorf("More of %.60q, %d: %+v, %d, %d; not %+v, %d, 0", s, at, got, next, err, want, to)
	}
}

// fails holds an error of Next at a place of s, and what stands beside it.
func fails(t *testing.T, s string, at int, want api.Errno) {
	t.Helper()
	if got, next, err := Next(s, at); got != (api.Token{}) || next != at || err != want {
		t.Errorf("Next of %.60q, %d: %+v, %d, %d; not no token, %d, %d", s, at, got, next, err, at, want)
	}
}

// moreFails holds an error of More at a place of s, and what stands beside it.
func moreFails(t *testing.T, s string, at int, want api.Errno) {
	t.Helper()
	if got, next, err := More(s, at); got != (api.Token{}) || next != at || err != want {
		t.Errorf("More of %.60q, %d: %+v, %d, %d; not no token, %d, %d", s, at, got, next, err, at, want)
	}
}

// marks holds that s is a token of markup, by Next and More, whatever stands ahead of it and behind.
func marks(t *testing.T, s string, want api.Token) {
	t.Helper()
	for _, ahead := range []string{"", "a", "<", "\u00e9<!--", junk} {
		for _, behind := range []string{"", ">", "]]>", "-->", "?>", "<", "'\"", " ", junk} {
			at, to := len(ahead), len(ahead)+len(s)
			tells(t, ahead+s+behind, at, want, to)
			moreTells(t, ahead+s+behind, at, want, to)
		}
	}
}

// refuses holds the error of markup, by Next and More, whatever stands ahead of it and behind.
func refuses(t *testing.T, s string, want api.Errno) {
	t.Helper()
	for _, ahead := range []string{"", "a", "<", "\u00e9<!--", junk} {
		for _, behind := range []string{"", ">", "]]>", "-->", "?>", "<", "'\"", " ", junk} {
			fails(t, ahead+s+behind, len(ahead), want)
			moreFails(t, ahead+s+behind, len(ahead), want)
		}
	}
}

// P5.1: the end of a text is Last to Next, and cut off to More.
func TestEndOfText(t *testing.T) {
	for _, s := range []string{"", "a", "<a>", "<a", "&", "\xff", "\u00e9"} {
		tells(t, s, len(s), api.Token{Kind: api.Last}, len(s))
		moreFails(t, s, len(s), api.ErrCut)
	}
}

// charsTell holds that s is Chars, up to the next < and up to the end.
func charsTell(t *testing.T, s, text string, blank bool) {
	t.Helper()
	want := api.Token{Kind: api.Chars, Text: text, Blank: blank}
	for _, ahead := range []string{"", "a", " ", "<b>", "]]", junk} {
		at, to := len(ahead), len(ahead)+len(s)
		tells(t, ahead+s, at, want, to)
		moreFails(t, ahead+s, at, api.ErrCut)
		for _, behind := range []string{"<", "<a", "<a>", "<]]>", "< \xff", "<!x"} {
			tells(t, ahead+s+behind, at, want, to)
			moreTells(t, ahead+s+behind, at, want, to)
		}
	}
}

// P5.1: Chars with a < behind and without, of blanks alone and of what is read as such.
func TestChars(t *testing.T) {
	for _, x := range []struct {
		s, text string
		blank   bool
	}{
		{" ", " ", true},
		{"\t", "\t", true},
		{"\n", "\n", true},
		{"\r", "\n", true},
		{"\r\n", "\n", true},
		{" \t\r\n\r \n", " \t\n\n \n", true},
		{"a", "a", false},
		{" a", " a", false},
		{"a ", "a ", false},
		{"\n\na\n", "\n\na\n", false},
		{"a\rb\r\nc", "a\nb\nc", false},
		{"&#32;", " ", false},
		{" &#x20; ", "   ", false},
		{"&#xA;", "\n", false},
		{"&#xD;\n", "\r\n", false},
		{"\u00a0", "\u00a0", false},
		{"\u2028", "\u2028", false},
		{"\u0085 ", "\u0085 ", false},
		{"x&amp;y", "x&y", false},
		{"&lt;a&gt;", "<a>", false},
		{"a>b", "a>b", false},
		{">", ">", false},
		{"/>", "/>", false},
		{"]]", "]]", false},
		{"]>", "]>", false},
		{"]] >", "]] >", false},
		{"]]&gt;", "]]>", false},
		{"]&#93;>", "]]>", false},
		{"-->?>", "-->?>", false},
		{"'\"", "'\"", false},
		{"!--a", "!--a", false},
		{"\u00e9\U0001f600\ufffd", "\u00e9\U0001f600\ufffd", false},
	} {
		charsTell(t, x.s, x.text, x.blank)
	}
}

// P5.1: the errors of Chars, chapter 4's among them, and which of several it is.
func TestCharsErrors(t *testing.T) {
	for _, x := range []struct {
		s    string
		want api.Errno
	}{
		{"]]>", api.ErrMark},
		{"ab]]>", api.ErrMark},
		{"a]]]>b", api.ErrMark},
		{" ]]> ", api.ErrMark},
		{"&", api.ErrRef},
		{"a&b;", api.ErrRef},
		{"&lt", api.ErrRef},
		{"&#0;", api.ErrRef},
		{"&#xfffe;", api.ErrRef},
		{"&#000000065;", api.ErrRef},
		{"&nbsp;", api.ErrRef},
		{"a\x01", api.ErrChar},
		{"\uffff", api.ErrChar},
		{"\x0b", api.ErrChar},
		{"a\xff", api.ErrUtf},
		{"a\xc3", api.ErrUtf},
		{"a\xe2\x82", api.ErrUtf},
		{"\x80", api.ErrUtf},
		{"\xed\xa0\x80", api.ErrUtf},
		{"\xc0\x80", api.ErrUtf},
		{"&]]>", api.ErrMark},
		{"]]>&", api.ErrMark},
		{"&]]>;", api.ErrMark},
		{"]]>\x01", api.ErrChar},
		{"\x01]]>", api.ErrChar},
		{"&\x01", api.ErrChar},
		{"\x01&", api.ErrChar},
		{"]]>\xff", api.ErrUtf},
		{"&\xff;", api.ErrUtf},
		{"&a\xc3", api.ErrUtf},
		{"\xff]]>&\x01", api.ErrUtf},
		{"\x01\xff", api.ErrUtf},
		{"\xff\x01", api.ErrUtf},
		{"a&]]>\x01\xff", api.ErrUtf},
	} {
		for _, ahead := range []string{"", "a", "<b>", "]]", junk} {
			fails(t, ahead+x.s, len(ahead), x.want)
			moreFails(t, ahead+x.s, len(ahead), api.ErrCut)
			for _, behind := range []string{"<", "<a", "<a>", "<&;]]>", "<\xff"} {
				fails(t, ahead+x.s+behind, len(ahead), x.want)
				moreFails(t, ahead+x.s+behind, len(ahead), x.want)
			}
		}
	}
}

// P5.1: what would be an error of Chars is none behind the < that ends them.
func TestCharsEnd(t *testing.T) {
	tells(t, "]]<>", 0, api.Token{Kind: api.Chars, Text: "]]"}, 2)
	fails(t, "&l<t;", 0, api.ErrRef)
	fails(t, "\xc3<\xa9", 0, api.ErrUtf)
	tells(t, "\u00e9", 0, api.Token{Kind: api.Chars, Text: "\u00e9"}, 2)
	fails(t, "\u00e9", 1, api.ErrUtf)
}

// P5.1: CDATA is read as it stands, but for its line ends, and is never Blank.
func TestData(t *testing.T) {
	for _, x := range [][2]string{
		{"", ""},
		{" ", " "},
		{" \t\n", " \t\n"},
		{"a", "a"},
		{"\r\n", "\n"},
		{"\r", "\n"},
		{"a\r\nb\rc\nd\r\r\n", "a\nb\nc\nd\n\n"},
		{"\n\r", "\n\n"},
		{"&", "&"},
		{"&amp;", "&amp;"},
		{"&#13;&x;", "&#13;&x;"},
		{"<", "<"},
		{"<a x='", "<a x='"},
		{"</a>", "</a>"},
		{"<![CDATA[", "<![CDATA["},
		{"<!--", "<!--"},
		{"]", "]"},
		{"]]", "]]"},
		{"a]]]", "a]]]"},
		{"]] >", "]] >"},
		{"]>", "]>"},
		{">", ">"},
		{"\u00e9\U0001f600", "\u00e9\U0001f600"},
	} {
		marks(t, "<![CDATA["+x[0]+"]]>", api.Token{Kind: api.Chars, Text: x[1]})
	}
}

// P5.1: a comment, and what may not stand in it.
func TestComment(t *testing.T) {
	for _, s := range []string{"", " ", "a", " c ", "-a", "a-b", "- - ", "->", ">", "->a-> ", "<", "<a>", "&", "&x;", "]]>", "?>", "\r\n\r", "<!- ", "'", "\u00e9"} {
		marks(t, "<!--"+s+"-->", api.Token{Kind: api.Comment, Text: s})
	}
	for _, s := range []string{"-", "--", "---", "a-", "a--", "b--c", "--a", "a -", "<!--", "--&", "->-", "-- -", "<!-", "- -"} {
		refuses(t, "<!--"+s+"-->", api.ErrMark)
	}
	for _, s := range []string{"<!-->", "<!--->", "<!--", "<!---", "<!--a--", "<!--a->", "<!--a-- >"} {
		fails(t, s, 0, api.ErrCut)
		moreFails(t, s, 0, api.ErrCut)
	}
}

// P5.1: an instruction of a plain name, and of what is none.
func TestInstruction(t *testing.T) {
	for _, s := range []string{
		"p", "p q", "p ", "p\tq", "p\nq", "p\rq", "p  q ", "p \r\n", "p ?", "p ??", "p <a>&]]>--", "p x='?'>", "\u00e9", "p.-1 a", "_ x",
		"xm", "xmlx", "xml-stylesheet a", "xmlns", "x", "p xml", "axml", "\u212aml", "\ufffd",
	} {
		marks(t, "<?"+s+"?>", api.Token{Kind: api.Instr, Text: s})
	}
	for _, s := range []string{"", " ", " p", "\np q", "1", "-a", ".", "a:b", ":a", "a:", "xml:a", "p?", "p?q", "p!", "p<", "p&", "p/ q", "p\u00a0q", "p=1", "\u00b7", "?", ">", "<a>", "?xml", "'p'"} {
		refuses(t, "<?"+s+"?>", api.ErrName)
	}
	marks(t, "<?p >?>", api.Token{Kind: api.Instr, Text: "p >"})
	for _, s := range []string{"<?>", "<?", "<??", "<?p>", "<?p?", "<?p? >", "<?p ?"} {
		fails(t, s, 0, api.ErrCut)
		moreFails(t, s, 0, api.ErrCut)
	}
}

// declares holds that an instruction stands at 0, and may stand nowhere else.
func declares(t *testing.T, s string) {
	t.Helper()
	full := "<?" + s + "?>"
	for _, behind := range []string{"", "<", "\n<a/>", "?>", junk} {
		tells(t, full+behind, 0, api.Token{Kind: api.Instr, Text: s}, len(full))
		moreTells(t, full+behind, 0, api.Token{Kind: api.Instr, Text: s}, len(full))
	}
	for _, ahead := range []string{" ", "\n", "a", "<a>", "\ufeff", full} {
		fails(t, ahead+full, len(ahead), api.ErrNot)
		moreFails(t, ahead+full, len(ahead), api.ErrNot)
	}
}

// P5.1: the declarations that may stand at 0: each with its parts there or not, in both quotes, with blanks of each kind.
func TestDeclaration(t *testing.T) {
	blanks := []string{" ", "\t", "\n", "\r", " \r\n\t "}
	encodings := []string{"", `"utf-8"`, `'utf-8'`, `"UTF-8"`, `'UTF-8'`, `'Utf-8'`, `"uTF-8"`}
	standalones := []string{"", `"yes"`, `'yes'`, `"no"`, `'no'`}
	for _, blank := range blanks {
		for _, version := range []string{`"1.0"`, `'1.0'`} {
			for _, encoding := range encodings {
				for _, standalone := range standalones {
					s := "xml" + blank + "version=" + version
					if encoding != "" {
						s += blank + "encoding=" + encoding
					}
					if standalone != "" {
						s += blank + "standalone=" + standalone
					}
					declares(t, s)
					declares(t, s+blank)
				}
			}
		}
	}
}

// P5.1: instructions of the name xml that may stand nowhere.
func TestNoDeclaration(t *testing.T) {
	for _, s := range []string{
		"xml", "xml ", "xml a", "Xml", "XML", "xMl a", "xmL", "XML version='1.0'", "Xml version='1.0'", "xML version='1.0' encoding='utf-8'",
		"xml version", "xml version=", "xml version='", "xml version='1.0", "xml version=1.0", "xml version='1.0\"", "xml version=\"1.0'", "xml version=''", "xml version=`1.0`",
		"xml version='1.1'", "xml version='1.00'", "xml version='1'", "xml version=' 1.0'", "xml version='1.0 '", "xml version='1x0'", "xml version='1.0''",
		"xml VERSION='1.0'", "xml Version='1.0'", "xml versio='1.0'", "xml versions='1.0'", "xml version ='1.0'", "xml version= '1.0'", "xml version = '1.0'", "xml version=='1.0'",
		"xml version='1.0' a", "xml version='1.0'a", "xml version='1.0'.", "xml version='1.0' version='1.0'",
		"xml version='1.0'encoding='utf-8'", "xml version='1.0' encoding='utf-8'standalone='yes'", "xml version='1.0'standalone='yes'",
		"xml version='1.0' encoding='latin1'", "xml version='1.0' encoding='utf8'", "xml version='1.0' encoding='utf-16'", "xml version='1.0' encoding=''", "xml version='1.0' encoding=' utf-8'", "xml version='1.0' encoding='utf-8 '", "xml version='1.0' encoding='utf\u20118'",
		"xml version='1.0' encoding='utf-8\"", "xml version='1.0' encoding=\"utf-8'", "xml version='1.0' encoding=utf-8", "xml version='1.0' encoding='utf-8", "xml version='1.0' encoding=", "xml version='1.0' encoding", "xml version='1.0' encoding ='utf-8'", "xml version='1.0' encoding= 'utf-8'", "xml version='1.0' Encoding='utf-8'",
		"xml version='1.0' encoding='utf-8' encoding='utf-8'", "xml version='1.0' encoding='utf-8' a", "xml version='1.0' encoding='utf-8'.",
		"xml version='1.0' standalone='YES'", "xml version='1.0' standalone='No'", "xml version='1.0' standalone='maybe'", "xml version='1.0' standalone='yesno'", "xml version='1.0' standalone=''", "xml version='1.0' standalone='yes\"", "xml version='1.0' standalone=\"no'", "xml version='1.0' standalone=yes", "xml version='1.0' standalone='yes", "xml version='1.0' standalone=", "xml version='1.0' standalone", "xml version='1.0' standalone ='yes'", "xml version='1.0' STANDALONE='yes'",
		"xml version='1.0' standalone='yes' standalone='yes'", "xml version='1.0' standalone='yes' encoding='utf-8'", "xml version='1.0' standalone='yes' a", "xml version='1.0' standalone='yes'a",
		"xml encoding='utf-8'", "xml standalone='yes'", "xml encoding='utf-8' version='1.0'", "xml encoding='utf-8' standalone='yes'",
		"xml version='1.0' ?", "xml \u00a0version='1.0'", "xml version='1.0'\u00a0", "xml xml version='1.0'",
	} {
		refuses(t, "<?"+s+"?>", api.ErrNot)
	}
	refuses(t, "<?xmlversion='1.0'?>", api.ErrName)
	refuses(t, "<?xml\u00a0version='1.0'?>", api.ErrName)
	refuses(t, "<? xml version='1.0'?>", api.ErrName)
}

// P5.1: an end tag of a name, and of another thing in its place.
func TestEndTag(t *testing.T) {
	for _, full := range []string{"a", "a:b", "\u00e9", "_", "a-1.b", "xml", "xml:a", "\U00010000"} {
		for _, blanks := range []string{"", " ", "\t", "\n", "\r", " \t\r\n "} {
			marks(t, "</"+full+blanks+">", api.Token{Kind: api.End, Text: full})
		}
	}
	for _, s := range []string{"", " ", " a", "\na ", "1", "-", ":", ":a", "a:", "a:b:c", "a: b", "a :b", "a b", "a/", "/a", "/", "a x='1'", "a'", "a\u00a0", "a<b", "<", "<a", "&", "a&amp;", "a?", "!a", "\u00b7a", "a:1"} {
		refuses(t, "</"+s+">", api.ErrName)
	}
	tells(t, "</a>b'>'", 0, api.Token{Kind: api.End, Text: "a"}, 4)
	refuses(t, "</a '>'>", api.ErrName)
	for _, s := range []string{"</", "</a", "</a ", "</1", "</ a", "</a b", "</a<b"} {
		fails(t, s, 0, api.ErrCut)
		moreFails(t, s, 0, api.ErrCut)
	}
}

// P5.1: DOCTYPE, and another <!, which are refused at once.
func TestDoctypeAndOthers(t *testing.T) {
	for _, s := range []string{"<!DOCTYPE", "<!DOCTYPE>", "<!DOCTYPE a", "<!DOCTYPEx", "<!DOCTYPE a [<!ENTITY b 'c'>]>", "<!DOCTYPE\xff", "<!DOCTYPE\x01>"} {
		refuses(t, s, api.ErrNot)
	}
	for _, s := range []string{
		"<!x", "<!>", "<! ", "<!<", "<!!", "<! --a-->", "<! DOCTYPE", "<!doctype", "<!Doctype a>", "<!DOCTYPe", "<!DOCx", "<!D>", "<!ENTITY a>", "<!E",
		"<!-x", "<!-a-->", "<!- -", "<!->", "<![a", "<![cdata[", "<![CDATA x]]>", "<![ CDATA[", "<!CDATA[", "<![C[", "<!]",
		"<!\xff", "<!\x01", "<!-\xff", "<!D\x01", "<![CDATA\xc3", "<!\xc3", "<!\u00e9",
	} {
		refuses(t, s, api.ErrMark)
	}
}

// P5.1: of <! it is cut off as long as one of the three may still come, and no longer.
func TestUnfinishedBeginnings(t *testing.T) {
	for _, full := range []string{"<!--", "<![CDATA[", "<!DOCTYPE", "<?", "</", "<"} {
		for n := 1; n < len(full); n++ {
			for _, ahead := range []string{"", "a", junk} {
				fails(t, ahead+full[:n], len(ahead), api.ErrCut)
				moreFails(t, ahead+full[:n], len(ahead), api.ErrCut)
			}
			if n < len("<!") {
				continue
			}
			for _, b := range []string{"x", " ", ">", "<", "\x01", "\xff", "\u00e9", "c", "d"} {
				fails(t, full[:n]+b, 0, api.ErrMark)
				moreFails(t, full[:n]+b, 0, api.ErrMark)
			}
		}
	}
}

// P5.1: a start tag, empty and not, with what stands between quotes.
func TestStartTag(t *testing.T) {
	for _, s := range []string{
		"", " ", "a", "a ", " a", "a:b", "1", "\u00e9", "a/b", "a/ ", "a x='1'", "a x=\"1\"",
		"a x='>'", "a x=\">\"", "a x='/'", "a x=\"/>\"", "a x='/>' y=\">\"", "a x='\">'", "a x=\"'>\"", "a x='\"' y='>\"'", "a '>' \">\"", "''", "\"\"", "'>'",
		"a x=&", "a x='&x;]]>'", "a x='\r\n'", "a --", "a?", "a !", "a ]]", "'\"'\"'\"",
	} {
		marks(t, "<"+s+">", api.Token{Kind: api.Start, Text: s})
		if s != "" {
			marks(t, "<"+s+"/>", api.Token{Kind: api.Start, Text: s, Empty: true})
			marks(t, "<"+s+"//>", api.Token{Kind: api.Start, Text: s + "/", Empty: true})
		}
	}
	for _, s := range []string{"<<>", "<a<>", "<a <b>", "<a<b/>", "<a x='<'>", "<a x=\"<\">", "<a x='<'/>", "<a x='>' <>", "<a '><'>", "<a </a>", "< <!--a-->", "<a<?b?>"} {
		refuses(t, s, api.ErrMark)
	}
	for _, s := range []string{"<", "<a", "<a/", "<a x='", "<a x='>", "<a x=\">", "<a x='>\"", "<a x='>' ", "<a x='1'", "<a x='/>", "<a <", "<a '<", "<a '></a>", "<a \"'>'"} {
		fails(t, s, 0, api.ErrCut)
		moreFails(t, s, 0, api.ErrCut)
	}
}

// samples are whole tokens of each kind of markup that has an end, some of them with a fault of their own.
func samples() []string {
	return []string{
		"<a>", "<a/>", "<a x='>' y=\"'\">", "<>", "<a x='<'>", "<a <b>",
		"</a>", "</a:b \n>", "</1>", "</>", "</a b>",
		"<!---->", "<!-- a-b -->", "<!--a--b-->", "<!--a--->",
		"<![CDATA[]]>", "<![CDATA[a\r\n]]]]>", "<![CDATA[<a>&]]>",
		"<?p?>", "<?p q?>", "<?1?>", "<??>", "<?a:b?>", "<?xml?>", "<?xml version='1.0'?>", "<?XML a?>",
	}
}

// beginning is how many bytes say of which kind a sample is.
func beginning(s string) int {
	for _, begin := range []string{"<![CDATA[", "<!--", "<?", "</"} {
		if strings.HasPrefix(s, begin) {
			return len(begin)
		}
	}
	return len("<")
}

// ending is how many bytes the mark has that ends a sample.
func ending(s string) int {
	for _, mark := range []string{"-->", "]]>", "?>"} {
		if strings.HasSuffix(s, mark) {
			return len(mark)
		}
	}
	return len(">")
}

// P5.1: bytes that are no UTF-8, and runes that may not be, come first within a token's bytes, and don't count behind its end.
func TestUnsound(t *testing.T) {
	wrong := []struct {
		s    string
		want api.Errno
	}{
		{"\x01", api.ErrChar}, {"\x00", api.ErrChar}, {"\ufffe", api.ErrChar}, {"\uffff", api.ErrChar}, {"\x1f", api.ErrChar},
		{"\xff", api.ErrUtf}, {"\xc3", api.ErrUtf}, {"\xa9", api.ErrUtf}, {"\xe2\x82", api.ErrUtf}, {"\xed\xa0\x80", api.ErrUtf}, {"\xf4\x90\x80\x80", api.ErrUtf},
		{"\xff\x01", api.ErrUtf}, {"\x01\xff", api.ErrUtf}, {"\x01\xc3", api.ErrUtf},
	}
	for _, s := range samples() {
		clean, to, none := Next("a"+s, 1)
		for _, x := range wrong {
			for n := beginning(s); n < len(s); n++ {
				// Within the mark that ends a token, they would tear it.
				if n > len(s)-ending(s) {
					break
				}
				fails(t, s[:n]+x.s+s[n:], 0, x.want)
				moreFails(t, s[:n]+x.s+s[n:]+"a", 0, x.want)
			}
			if got, next, err := Next("a"+s+x.s, 1); got != clean || next != to || err != none {
				t.Errorf("Next of %q with %q behind: %+v, %d, %d", s, x.s, got, next, err)
			}
			if got, next, err := Next(x.s+s, len(x.s)); got != clean || err != none || err == api.OK && next != len(x.s)+len(s) {
				t.Errorf("Next of %q with %q ahead: %+v, %d, %d", s, x.s, got, next, err)
			}
		}
	}
}

// P5.1: each kind of token, cut off at every place, is ErrCut, whatever else is wrong with it.
func TestCutOff(t *testing.T) {
	for _, s := range samples() {
		for n := 1; n < len(s); n++ {
			fails(t, s[:n], 0, api.ErrCut)
			moreFails(t, s[:n], 0, api.ErrCut)
			if n < beginning(s) {
				continue
			}
			for _, x := range []string{"\x01", "\xff", "\xc3", "\xff\x01"} {
				fails(t, s[:n]+x, 0, api.ErrCut)
				moreFails(t, s[:n]+x, 0, api.ErrCut)
			}
		}
	}
}

// P5.1: All of whole texts.
func TestAll(t *testing.T) {
	last := api.Token{Kind: api.Last}
	for _, x := range []struct {
		s    string
		want []api.Token
	}{
		{"", []api.Token{last}},
		{" ", []api.Token{{Kind: api.Chars, Text: " ", Blank: true}, last}},
		{"<a x='>'/>b", []api.Token{{Kind: api.Start, Text: "a x='>'", Empty: true}, {Kind: api.Chars, Text: "b"}, last}},
		{"<a></a>", []api.Token{{Kind: api.Start, Text: "a"}, {Kind: api.End, Text: "a"}, last}},
		{"</a><a>", []api.Token{{Kind: api.End, Text: "a"}, {Kind: api.Start, Text: "a"}, last}},
		{"<?xml version='1.0'?>\n<a>x&lt;<![CDATA[ ]]> \r<!--c--><?p?></a\n>\t", []api.Token{
			{Kind: api.Instr, Text: "xml version='1.0'"}, {Kind: api.Chars, Text: "\n", Blank: true}, {Kind: api.Start, Text: "a"},
			{Kind: api.Chars, Text: "x<"}, {Kind: api.Chars, Text: " "}, {Kind: api.Chars, Text: " \n", Blank: true},
			{Kind: api.Comment, Text: "c"}, {Kind: api.Instr, Text: "p"}, {Kind: api.End, Text: "a"}, {Kind: api.Chars, Text: "\t", Blank: true}, last}},
	} {
		if l, at, err := All(x.s); !slices.Equal(l, x.want) || at != len(x.s) || err != api.OK {
			t.Errorf("All of %q: %+v, %d, %d; not %+v", x.s, l, at, err, x.want)
		}
	}
}

// P5.1: All up to an error: the tokens ahead of it stand, with its place.
func TestAllUpToAnError(t *testing.T) {
	ahead := "<a>b\r\n<!--c-->"
	want := []api.Token{{Kind: api.Start, Text: "a"}, {Kind: api.Chars, Text: "b\n"}, {Kind: api.Comment, Text: "c"}}
	for _, x := range []struct {
		s   string
		err api.Errno
	}{
		{"<", api.ErrCut}, {"<a", api.ErrCut}, {"<!", api.ErrCut}, {"<![CDATA[", api.ErrCut}, {"<!--", api.ErrCut}, {"<?p", api.ErrCut}, {"</a", api.ErrCut},
		{"]]>", api.ErrMark}, {"<!x", api.ErrMark}, {"<!--a--->", api.ErrMark}, {"<a <>", api.ErrMark},
		{"<!DOCTYPE a>", api.ErrNot}, {"<?xml version='1.0'?>", api.ErrNot}, {"<?Xml?>", api.ErrNot},
		{"</1>", api.ErrName}, {"<?1?>", api.ErrName}, {"&", api.ErrRef}, {"a&b;<", api.ErrRef},
		{"\x01", api.ErrChar}, {"<\x01>", api.ErrChar}, {"\xff", api.ErrUtf}, {"\xc3", api.ErrUtf}, {"</a\xff>", api.ErrUtf},
	} {
		if l, at, err := All(ahead + x.s); !slices.Equal(l, want) || at != len(ahead) || err != x.err {
			t.Errorf("All of %q: %+v, %d, %d; not %+v, %d, %d", ahead+x.s, l, at, err, want, len(ahead), x.err)
		}
		if x.s == "<?xml version='1.0'?>" {
			continue
		}
		if l, at, err := All(x.s); len(l) != 0 || at != 0 || err != x.err {
			t.Errorf("All of %q: %+v, %d, %d", x.s, l, at, err)
		}
		if l, at, err := All(x.s + "<a>" + junk); err == api.OK || at < 0 || at > len(x.s) && len(l) == 0 {
			t.Errorf("All of %q: %+v, %d, %d", x.s+"<a>"+junk, l, at, err)
		}
	}
}

// words answers what the chapter's words say, by patterns instead of marks that are looked for.
type words struct {
	data, comment, instruction, end, start, chars, declaration, target, xml *regexp.Regexp
}

func spoken() words {
	return words{
		data:        regexp.MustCompile(`(?s)^<!\[CDATA\[(.*?)\]\]>`),
		comment:     regexp.MustCompile(`(?s)^<!--(.*?)-->`),
		instruction: regexp.MustCompile(`(?s)^<\?(.*?)\?>`),
		end:         regexp.MustCompile(`(?s)^</(.*?)[\t\n\r ]*>`),
		start:       regexp.MustCompile(`^<((?:[^"'>]|"[^"]*"|'[^']*')*?)(/?)>`),
		chars:       regexp.MustCompile(`^[^<]+`),
		declaration: regexp.MustCompile(`^xml[\t\n\r ]+version=("1\.0"|'1\.0')([\t\n\r ]+encoding=(?i:"utf-8"|'utf-8'))?([\t\n\r ]+standalone=("(yes|no)"|'(yes|no)'))?[\t\n\r ]*$`),
		target:      regexp.MustCompile(`(?s)^([^\t\n\r ]*)(?:[\t\n\r ].*)?$`),
		xml:         regexp.MustCompile(`^[xX][mM][lL]$`),
	}
}

// of answers Next, or More, and what its bytes are found by.
func (w words) of(s string, at int, more bool) (api.Token, int, api.Errno) {
	rest := s[at:]
	if rest == "" && !more {
		return api.Token{Kind: api.Last}, at, api.OK
	}
	if rest == "" {
		return api.Token{}, at, api.ErrCut
	}
	found, t, err := w.found(rest, at)
	switch {
	case found == nil && err == api.OK, rest[0] != '<' && more && len(found[0]) == len(rest):
		return api.Token{}, at, api.ErrCut
	case found == nil:
		return api.Token{}, at, err
	case !utf8.ValidString(found[0]):
		return api.Token{}, at, api.ErrUtf
	}
	for _, r := range found[0] {
		if !char.Char(r) {
			return api.Token{}, at, api.ErrChar
		}
	}
	if err != api.OK {
		return api.Token{}, at, err
	}
	return t, at + len(found[0]), api.OK
}

// found answers the token's bytes, and what is said of it, whatever its bytes are; none and no error, if it has no end.
func (w words) found(rest string, at int) ([]string, api.Token, api.Errno) {
	for _, full := range []string{"<!--", "<![CDATA[", "<!DOCTYPE"} {
		if strings.HasPrefix(full, rest) && rest != full {
			return nil, api.Token{}, api.OK
		}
	}
	switch {
	case rest[0] != '<':
		m := w.chars.FindStringSubmatch(rest)
		text, _, err := ref.Text(m[0])
		if strings.Contains(m[0], "]]>") {
			err = api.ErrMark
		}
		return m, api.Token{Kind: api.Chars, Text: text, Blank: strings.Trim(m[0], "\t\n\r ") == ""}, err
	case strings.HasPrefix(rest, "<![CDATA["):
		return ended(w.data.FindStringSubmatch(rest), func(m []string) (api.Token, api.Errno) {
			return api.Token{Kind: api.Chars, Text: strings.NewReplacer("\r\n", "\n", "\r", "\n").Replace(m[1])}, api.OK
		})
	case strings.HasPrefix(rest, "<!--"):
		return ended(w.comment.FindStringSubmatch(rest), func(m []string) (api.Token, api.Errno) {
			if strings.Contains(m[1]+"-", "--") {
				return api.Token{}, api.ErrMark
			}
			return api.Token{Kind: api.Comment, Text: m[1]}, api.OK
		})
	case strings.HasPrefix(rest, "<!DOCTYPE"):
		return nil, api.Token{}, api.ErrNot
	case strings.HasPrefix(rest, "<!"):
		return nil, api.Token{}, api.ErrMark
	case strings.HasPrefix(rest, "<?"):
		return ended(w.instruction.FindStringSubmatch(rest), func(m []string) (api.Token, api.Errno) { return w.told(m[1], at) })
	case strings.HasPrefix(rest, "</"):
		return ended(w.end.FindStringSubmatch(rest), func(m []string) (api.Token, api.Errno) {
			if _, _, ok := name.Split(m[1]); !ok {
				return api.Token{}, api.ErrName
			}
			return api.Token{Kind: api.End, Text: m[1]}, api.OK
		})
	}
	return ended(w.start.FindStringSubmatch(rest), func(m []string) (api.Token, api.Errno) {
		if strings.Contains(m[1], "<") {
			return api.Token{}, api.ErrMark
		}
		return api.Token{Kind: api.Start, Text: m[1], Empty: m[2] == "/"}, api.OK
	})
}

// ended is what is said of a token, if it has an end.
func ended(m []string, say func([]string) (api.Token, api.Errno)) ([]string, api.Token, api.Errno) {
	if m == nil {
		return nil, api.Token{}, api.OK
	}
	t, err := say(m)
	return m, t, err
}

// told is what is said of an instruction.
func (w words) told(inside string, at int) (api.Token, api.Errno) {
	target := w.target.FindStringSubmatch(inside)[1]
	switch {
	case !name.Plain(target):
		return api.Token{}, api.ErrName
	case w.xml.MatchString(target) && (at != 0 || !w.declaration.MatchString(inside)):
		return api.Token{}, api.ErrNot
	}
	return api.Token{Kind: api.Instr, Text: inside}, api.OK
}

// made makes a text of pieces that stand at the edges of tokens.
func made(chance *rand.Rand) string {
	pieces := []string{
		"a", "b", ":", "1", " ", "\n", "\r", "\r\n", "\t", "\u00e9", "<", ">", "/", "!", "?", "-", "[", "]", "'", "\"", "&", ";", "=",
		"<a", "</", "</a", "<a>", "</a>", "<a/>", "/>", "<!", "<!-", "<!--", "--", "-->", "->", "<![CDATA[", "<![CDA", "]]>", "]]", "]>", "<?", "<?p", "?>", "<?p ", "&lt;", "&#x41;", "&x;",
		"<!DOCTYPE", "<!DOC", "<!--a", "b-->", "<!--a-->", "<a x='", "'>", "<a x=\"", "\">", "xml",
	}
	if chance.Intn(3) == 0 {
		pieces = append(pieces, "\x01", "\uffff", "\xff", "\xc3", "\xe2\x82", "\xa9", "\xed")
	}
	if chance.Intn(3) == 0 {
		pieces = []string{"xml", "XML", " ", "\n", " version=", " version='1.0'", " encoding='utf-8'", " encoding=\"UTF-8\"", " encoding=", " standalone='yes'", " standalone=\"no\"", "'1.0'", "'utf-8'", "'no'", "'", "\"", "?", "?>", "<?xml", "<?xml version='1.0'"}
	}
	s := ""
	if chance.Intn(3) == 0 {
		s = "<?xml version='1.0'"
	}
	for range chance.Intn(9) {
		s += pieces[chance.Intn(len(pieces))]
	}
	if chance.Intn(2) == 0 {
		s += []string{">", "?>", "]]>", "-->", "<", "/>"}[chance.Intn(6)]
	}
	return s
}

// P5.1: many texts at each of their places, against the chapter's words tried out anew.
func TestAgainstTheWords(t *testing.T) {
	w := spoken()
	chance := rand.New(rand.NewSource(5))
	seen := map[api.Errno]int{}
	kinds := map[int]int{}
	for range 60000 {
		s := made(chance)
		for at := 0; at <= len(s); at++ {
			want, to, wrong := w.of(s, at, false)
			if got, next, err := Next(s, at); got != want || next != to || err != wrong {
				t.Fatalf("Next of %q, %d: %+v, %d, %d; not %+v, %d, %d", s, at, got, next, err, want, to, wrong)
			}
			seen[wrong]++
			kinds[want.Kind]++
			want, to, wrong = w.of(s, at, true)
			if got, next, err := More(s, at); got != want || next != to || err != wrong {
				t.Fatalf("More of %q, %d: %+v, %d, %d; not %+v, %d, %d", s, at, got, next, err, want, to, wrong)
			}
		}
	}
	for _, err := range []api.Errno{api.OK, api.ErrUtf, api.ErrChar, api.ErrName, api.ErrRef, api.ErrMark, api.ErrCut, api.ErrNot} {
		if seen[err] < 1000 {
			t.Errorf("too few texts answer %d: %d", err, seen[err])
		}
	}
	for _, kind := range []int{api.Start, api.End, api.Chars, api.Comment, api.Instr, api.Last} {
		if kinds[kind] < 1000 {
			t.Errorf("too few tokens of the kind %d: %d", kind, kinds[kind])
		}
	}
}

// P5.1: All is Next, over and over.
func TestAllIsNext(t *testing.T) {
	chance := rand.New(rand.NewSource(55))
	for range 60000 {
		s := made(chance)
		l, place, wrong := All(s)
		at := 0
		for i := 0; ; i++ {
			got, to, err := Next(s, at)
			if err != api.OK {
				if len(l) != i || place != at || wrong != err {
					t.Fatalf("All of %q: %+v, %d, %d; Next at %d: %d", s, l, place, wrong, at, err)
				}
				break
			}
			if i >= len(l) || l[i] != got {
				t.Fatalf("All of %q: %+v; Next at %d: %+v", s, l, at, got)
			}
			at = to
			if got.Kind == api.Last {
				if len(l) != i+1 || place != len(s) || wrong != api.OK {
					t.Fatalf("All of %q: %+v, %d, %d", s, l, place, wrong)
				}
				break
			}
		}
	}
}

// P5.2: what More tells of a text's beginning, but ErrCut, is what Next and More tell of the whole.
func TestMoreStands(t *testing.T) {
	chance := rand.New(rand.NewSource(52))
	stood := 0
	for range 20000 {
		s := made(chance) + made(chance)
		cut := chance.Intn(len(s) + 1)
		for at := 0; at <= cut; at++ {
			got, to, err := More(s[:cut], at)
			if err == api.ErrCut {
				continue
			}
			stood++
			if want, next, wrong := Next(s, at); got != want || to != next || err != wrong {
				t.Fatalf("More of %q, %d: %+v, %d, %d; but Next of %q: %+v, %d, %d", s[:cut], at, got, to, err, s, want, next, wrong)
			}
			if want, next, wrong := More(s, at); got != want || to != next || err != wrong {
				t.Fatalf("More of %q, %d: %+v, %d, %d; but of %q: %+v, %d, %d", s[:cut], at, got, to, err, s, want, next, wrong)
			}
		}
	}
	if stood < 10000 {
		t.Errorf("too few answers stand: %d", stood)
	}
}

// P5.2: where More tells that a text is cut off, more bytes can change what Next tells; else it tells what Next does.
func TestMoreAndNext(t *testing.T) {
	for _, x := range []struct {
		s, more string
	}{
		{"", "a"}, {"a", "b"}, {" ", "a"}, {"a\xc3", "\xa9"}, {"&l", "t;"}, {"]", "]>"}, {"a\r", "\n"}, {"&", "amp;"}, {"a]]>", "\xff"}, {"a\x01", "\xff"},
	} {
		moreFails(t, x.s, 0, api.ErrCut)
		moreFails(t, x.s+x.more, 0, api.ErrCut)
		got, to, err := Next(x.s, 0)
		want, next, wrong := Next(x.s+x.more, 0)
		if got == want && to == next && err == wrong {
			t.Errorf("Next of %q: %+v, %d, %d, and of %q, too", x.s, got, to, err, x.s+x.more)
		}
		if got, to, err := More(x.s+x.more+"<", 0); x.s+x.more != "" && (got != want || to != next || err != wrong) {
			t.Errorf("More of %q: %+v, %d, %d; but Next of %q: %+v, %d, %d", x.s+x.more+"<", got, to, err, x.s+x.more, want, next, wrong)
		}
	}
}

// P5.2: a text that comes byte by byte has the tokens of the whole.
func TestByteByByte(t *testing.T) {
	chance := rand.New(rand.NewSource(25))
	for range 20000 {
		s := made(chance)
		want, place, wrong := All(s)
		var l []api.Token
		at, err := 0, api.OK
		for n := 0; n <= len(s) && err == api.OK; n++ {
			for {
				got, to, e := More(s[:n], at)
				if e != api.OK {
					if e != api.ErrCut {
						err = e
					}
					break
				}
				l, at = append(l, got), to
			}
		}
		for err == api.OK {
			got, to, e := Next(s, at)
			if err = e; err == api.OK {
				l, at = append(l, got), to
			}
			if got.Kind == api.Last {
				break
			}
		}
		if !slices.Equal(l, want) || at != place || err != wrong {
			t.Fatalf("%q byte by byte: %+v, %d, %d; at once: %+v, %d, %d", s, l, at, err, want, place, wrong)
		}
	}
}

// P1: the calls end, and none panics, at all places of short texts of the bytes that matter, and beside them.
func TestEnds(t *testing.T) {
	ends := func(s string) {
		for at := -2; at <= len(s)+2; at++ {
			for _, f := range []func(string, int) (api.Token, int, api.Errno){Next, More} {
				got, to, err := f(s, at)
				if err != api.OK && (got != (api.Token{}) || to != at) || err == api.OK && (to < at || to > len(s) || to == at && got.Kind != api.Last) {
					t.Fatalf("%q, %d: %+v, %d, %d", s, at, got, to, err)
				}
				if (at < 0 || at > len(s)) && err == api.OK {
					t.Fatalf("%q, %d: %+v, %d", s, at, got, to)
				}
			}
		}
		if l, at, err := All(s); at < 0 || at > len(s) || err == api.OK && (at != len(s) || l[len(l)-1].Kind != api.Last) {
			t.Fatalf("%q: %+v, %d, %d", s, l, at, err)
		}
	}
	texts := []string{""}
	for range 4 {
		for _, s := range texts {
			ends(s)
		}
		texts = longer(texts, "<>/?!-[]&'a \r\x01\xc3")
	}
	for _, s := range texts[:len(texts)/15] {
		ends(s)
	}
}

// P1: long texts end, too.
func TestLong(t *testing.T) {
	for _, piece := range []string{"<", ">", "a", "<a>", "</a>", "<!--", "<!---->", "<![CDATA[", "<![CDATA[]]>", "]]>", "<?", "<?p?>", "'", "<a '", "\u00e9", "&lt;", "\xff", "\r\n", "-", "?"} {
		s := strings.Repeat(piece, 1<<15)
		for _, ahead := range []string{"", "<", "<!--", "<![CDATA[", "<?", "<?xml ", "</", "<a '"} {
			if _, at, err := All(ahead + s); at < 0 || at > len(ahead+s) || err == api.OK && at != len(ahead+s) {
				t.Errorf("All of %q and many of %q: %d, %d", ahead, piece, at, err)
			}
		}
	}
}

// longer lays each of the bytes behind each of the texts.
func longer(texts []string, bytes string) []string {
	var l []string
	for _, s := range texts {
		for i := range len(bytes) {
			l = append(l, s+bytes[i:i+1])
		}
	}
	return l
}
