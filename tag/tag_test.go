package tag

import (
	"math/rand"
	"regexp"
	"slices"
	"strconv"
	"strings"
	"testing"
	"unicode/utf8"
	"unsafe"

	"oriel/api"
	"oriel/char"
	"oriel/name"
	"oriel/ref"
)

// pairs makes attributes of names and values in turn.
func pairs(l ...string) []api.Raw {
	var attrs []api.Raw
	for i := 0; i < len(l); i += 2 {
		attrs = append(attrs, api.Raw{Name: l[i], Value: l[i+1]})
	}
	return attrs
}

// same tells whether two tags say the same.
func same(a, b api.Tag) bool {
	return a.Name == b.Name && slices.Equal(a.Attrs, b.Attrs)
}

// reads holds the tag that is read of s.
func reads(t *testing.T, s, full string, attrs ...string) {
	t.Helper()
	want := api.Tag{Name: full, Attrs: pairs(attrs...)}
	if got, err := Parse(s); !same(got, want) || err != api.OK {
		t.Errorf("Parse of %.80q: %.80q, %d; not %.80q, 0", s, got, err, want)
	}
}

// fails holds the error of s, and that the zero value stands beside it.
func fails(t *testing.T, s string, want api.Errno) {
	t.Helper()
	if got, err := Parse(s); got.Name != "" || len(got.Attrs) != 0 || err != want {
		t.Errorf("Parse of %.80q: %.80q, %d; not no tag, %d", s, got, err, want)
	}
}

// someBlanks is each blank alone, and several of them.
var someBlanks = []string{"\t", "\n", "\r", " ", "\r\n", "  ", "\t\n\r ", " \r\t\n\n", strings.Repeat(" ", 100)}

// noBlanks is what looks like a blank, and is none.
var noBlanks = []string{"\x00", "\x08", "\x0b", "\x0c", "\x0e", "\x1f", "\x7f", "\u0085", "\u00a0", "\u2003", "\u2028", "\u3000"}

// someNames is names of all kinds; bytes that are no rune's are fffd (chapter 3), which may begin a name.
var someNames = []string{"a", "Z", "_", "a1", "a.-_9", "xmlns", "xmlns:a", "p:a", "_:_", "\u00e9", "\u00e9:\u00e9\u00b7", "\U00010000:a\u0300", "\ufffd", "\xff", "a:\xc3", strings.Repeat("a", 1000)}

// noNames is what Cut takes from a place, and is no name.
var noNames = []string{"1", "-", ".", "-a", ".a", "1a", "\u00b7", "\u0300a", "\u203f", ":", "::", ":a", "a:", "a:b:c", "a::b", ":a:b", "a:b:", "1:a", "a:1", "a:-b", "-a:b", "\xff:", ":\xff"}

// noStretch is a byte or rune with which no stretch of Cut begins, and which is no blank.
var noStretch = append([]string{"=", "\"", "'", "/", "<", ">", "&", "&lt;", ";", "?", "!", "+", "$", "@", "{", "\u00d7", "\u037e", "\ufffe", "\U000f0000", "\U0010ffff"}, noBlanks...)

// P6.1: a name alone, and blanks behind it.
func TestNameAlone(t *testing.T) {
	for _, n := range someNames {
		reads(t, n, n)
		for _, b := range someBlanks {
			reads(t, n+b, n)
			fails(t, b+n, api.ErrName)
			fails(t, b+n+b, api.ErrName)
		}
	}
}

// P6.1: no name where the tag's own must stand.
func TestNoName(t *testing.T) {
	fails(t, "", api.ErrName)
	for _, b := range someBlanks {
		fails(t, b, api.ErrName)
		fails(t, b+"x='1'", api.ErrName)
	}
	for _, n := range slices.Concat(noNames, noStretch) {
		fails(t, n, api.ErrName)
		fails(t, n+" ", api.ErrName)
		fails(t, n+" x='1'", api.ErrName)
		fails(t, n+"=", api.ErrName)
	}
	for _, n := range noStretch {
		fails(t, n+"a", api.ErrName)
	}
}

// P6.1: no name where an attribute's must stand: what Cut takes from there is none, or it takes nothing.
func TestNoAttributeName(t *testing.T) {
	for _, ahead := range []string{"a ", "p:a\t\n", "a x='1' ", "a x='1' y = \"2\"\r"} {
		for _, n := range slices.Concat(noNames, noStretch) {
			fails(t, ahead+n, api.ErrName)
			fails(t, ahead+n+"='1'", api.ErrName)
			fails(t, ahead+n+" = '1' ", api.ErrName)
			fails(t, ahead+n+" z='1'", api.ErrName)
		}
		fails(t, ahead+"='1'", api.ErrName)
		fails(t, ahead+"'1'", api.ErrName)
		fails(t, ahead+"/", api.ErrName)
	}
}

// P6.1: names of attributes, and blanks around each part of them.
func TestAttributes(t *testing.T) {
	reads(t, "a x = '1' y=\"2\"", "a", "x", "1", "y", "2")
	reads(t, "p:a\n b='x\ty&lt;\"'  q:c =\n\"'&#10;\" ", "p:a", "b", "x y<\"", "q:c", "'\n")
	for _, n := range someNames {
		reads(t, n+" "+n+"='1'", n, n, "1")
		reads(t, "a "+n+"=\"1\"", "a", n, "1")
	}
	none := append([]string{""}, someBlanks...)
	for _, b := range someBlanks {
		for _, c := range none {
			for _, q := range []string{"'", "\""} {
				reads(t, "a"+b+"x"+c+"="+q+"1"+q, "a", "x", "1")
				reads(t, "a"+b+"x="+c+q+"1"+q, "a", "x", "1")
				reads(t, "a"+b+"x"+c+"="+c+q+"1"+q+c, "a", "x", "1")
				reads(t, "a x='0'"+b+"p:x"+c+"="+b+q+"1"+q+b+"y"+b+"="+c+q+q+c, "a", "x", "0", "p:x", "1", "y", "")
			}
		}
	}
}

// P6.1: what stands between the quotes is read as a value, whatever it looks like; it ends with the next like quote.
func TestValues(t *testing.T) {
	for _, v := range []string{
		"", "1", "a b", " ", "  a  ", "=", "x=1", "<", ">", "</a>", "/", "]]>", ";", "#", "\u00e9\ufffd\U0010ffff", "\u0085\u2028\u00a0\x7f", "a:b:c", "-", strings.Repeat("v", 70000),
	} {
		reads(t, "a x='"+v+"'", "a", "x", v)
		reads(t, "a x=\""+v+"\"", "a", "x", v)
		reads(t, "a x='\"' y = \"'"+v+"'\" z='\""+v+"\"' ", "a", "x", "\"", "y", "'"+v+"'", "z", "\""+v+"\"")
		reads(t, "a x='"+v+"' y=\""+v+"\"", "a", "x", v, "y", v)
	}
	reads(t, "a x='\"' y=\"'\"", "a", "x", "\"", "y", "'")
	reads(t, "a x='y=\"1\" z=\"2\"'", "a", "x", "y=\"1\" z=\"2\"")
}

// P6.1: references, and blanks, in a value.
func TestReadAsValue(t *testing.T) {
	for _, v := range [][2]string{
		{"\t", " "}, {"\n", " "}, {"\r", " "}, {" ", " "}, {"\r\n", " "}, {"\n\r", "  "}, {"\r\r\n", "  "}, {"\t\n\r ", "    "}, {"a\r\nb\tc", "a b c"},
		{"&#9;", "\t"}, {"&#xA;", "\n"}, {"&#xD;", "\r"}, {"&#13;&#10;", "\r\n"}, {"&#xD;\n", "\r "}, {"\r&#xA;", " \n"}, {"&#32;", " "},
		{"&lt;&gt;&amp;&apos;&quot;", "<>&'\""}, {"&#34;&#39;", "\"'"}, {"&#x22;", "\""}, {"&amp;lt;", "&lt;"}, {"&#38;#38;", "&#38;"}, {"&#233;", "\u00e9"}, {"&#x10FFFF;", "\U0010ffff"},
	} {
		reads(t, "a x='"+v[0]+"'", "a", "x", v[1])
		reads(t, "a x=\""+v[0]+"\"", "a", "x", v[1])
		reads(t, "a x=\"0"+v[0]+"0\" y='"+v[0]+"."+v[0]+"'\n", "a", "x", "0"+v[1]+"0", "y", v[1]+"."+v[1])
	}
}

// wrongValues is values with an error of chapter 4, without quotes in them.
var wrongValues = []struct {
	value string
	err   api.Errno
}{
	{"&", api.ErrRef}, {"&;", api.ErrRef}, {"&x;", api.ErrRef}, {"&lt", api.ErrRef}, {"&#0;", api.ErrRef}, {"&#xFFFE;", api.ErrRef}, {"&#000000065;", api.ErrRef}, {"&&amp;", api.ErrRef}, {"& \xff", api.ErrRef},
	{"\x00", api.ErrChar}, {"\x1f", api.ErrChar}, {"\ufffe", api.ErrChar}, {"\x01&", api.ErrChar},
	{"\xff", api.ErrUtf}, {"\xc3a", api.ErrUtf}, {"\xc0\x80", api.ErrUtf}, {"\xed\xa0\x80", api.ErrUtf}, {"\xff&\x01", api.ErrUtf},
	{"\xc3", api.ErrCut}, {"\xe2\x82", api.ErrCut}, {"\xf0\x9f\x98", api.ErrCut},
}

// P6.1: chapter 4's errors of a value, wherever it stands.
func TestWrongValues(t *testing.T) {
	for _, w := range wrongValues {
		for _, v := range []string{w.value, "a" + w.value, "\u00e9\n&lt;" + w.value} {
			for _, q := range []string{"'", "\""} {
				fails(t, "a x="+q+v+q, w.err)
				fails(t, "a x = "+q+v+q+" ", w.err)
				fails(t, "a w='1' x="+q+v+q+" y='2'", w.err)
			}
		}
	}
}

// P6.1: a blank, = or a quote that must stand, and doesn't.
func TestMarks(t *testing.T) {
	for _, n := range noStretch {
		fails(t, "a"+n, api.ErrMark)
		fails(t, "p:a"+n+" ", api.ErrMark)
		fails(t, "a"+n+"x='1'", api.ErrMark)
		fails(t, "a x='1'"+n, api.ErrMark)
		fails(t, "a x='1'"+n+"y='1'", api.ErrMark)
		if n != "=" {
			fails(t, "a x"+n, api.ErrMark)
			fails(t, "a x"+n+"='1'", api.ErrMark)
			fails(t, "a x "+n+"='1'", api.ErrMark)
		}
		if n != "'" && n != "\"" {
			fails(t, "a x="+n, api.ErrMark)
			fails(t, "a x= "+n+"'1'", api.ErrMark)
		}
	}
	for _, s := range []string{
		"a='1'", "a=", "a'1'", "a\"1\"",
		"a x='1'y='2'", "a x=\"1\"y=\"2\"", "a x='1'y", "a x='1'1='2'", "a x='1''", "a x=''''", "a x='1'\"\"", "a x='1'=", "a x='1'x='1'", "a x='1'y='&'",
		"a x", "a x ", "a x y='1'", "a x y", "a x'1'", "a x '1'", "a x\"1\"", "a x\t\n\"1\" ",
		"a x=", "a x= ", "a x =", "a x = ", "a x=1", "a x=1 ", "a x=y", "a x=1'", "a x=1\"1\"", "a x==", "a x=='1'", "a x= ='1'", "a x=&quot;1&quot;", "a x=\u201c1\u201d", "a x=`1`", "a x=y='1'",
		"a x='", "a x=\"", "a x='1", "a x=\"1", "a x='1\"", "a x=\"1'", "a x='\"", "a x=\"'", "a x='1 ", "a x='1\" y=\"2\"", "a x=\"1' y='2'", "a x='1&apos;", "a x=\"1&quot;", "a x='1&#39;",
		"a x='1' y", "a x='1' y=", "a x='1' y='", "a x='1' y=\"2'",
	} {
		fails(t, s, api.ErrMark)
		fails(t, "p:"+s, api.ErrMark)
	}
}

// P6.1: an attribute whose name stood ahead, as it stands there.
func TestTwice(t *testing.T) {
	for _, n := range someNames {
		fails(t, "a "+n+"='1' "+n+"='1'", api.ErrTwice)
		fails(t, "a "+n+"='1'\n"+n+" = \"2\" ", api.ErrTwice)
		fails(t, "a "+n+"='1' xx='' y='' "+n+"='2'", api.ErrTwice)
		fails(t, "a xx='' "+n+"='1' yy='' "+n+"='' zz=''", api.ErrTwice)
	}
	// The element's own name, another spelling, another prefix, a part of a name: none of them stood ahead as this attribute's.
	reads(t, "a a='1'", "a", "a", "1")
	reads(t, "a x='1' a='2'", "a", "x", "1", "a", "2")
	reads(t, "p:a p:a='1' a='2'", "p:a", "p:a", "1", "a", "2")
	reads(t, "a x='1' X='2'", "a", "x", "1", "X", "2")
	reads(t, "a x='1' p:x='2' q:x='3' p='4' xx='5'", "a", "x", "1", "p:x", "2", "q:x", "3", "p", "4", "xx", "5")
	reads(t, "a \u00e9='1' e\u0301='2' \xff='3' \ufffd='4' \xfe='5'", "a", "\u00e9", "1", "e\u0301", "2", "\xff", "3", "\ufffd", "4", "\xfe", "5")
	reads(t, "a x='y=1' y='x=1'", "a", "x", "y=1", "y", "x=1")
}

// many is a tag's text with so many attributes of different names.
func many(n int) (string, []string) {
	s := "a"
	var l []string
	for i := range n {
		l = append(l, "x"+strconv.Itoa(i), strconv.Itoa(i))
		s += " x" + strconv.Itoa(i) + "='" + strconv.Itoa(i) + "'"
	}
	return s, l
}

// P6.1: just MaxAttrs attributes, and more.
func TestMany(t *testing.T) {
	for n := range api.MaxAttrs + 1 {
		s, l := many(n)
		reads(t, s, "a", l...)
		reads(t, s+" \n", "a", l...)
	}
	for _, n := range []int{api.MaxAttrs + 1, api.MaxAttrs + 2, 2 * api.MaxAttrs, 1000} {
		s, _ := many(n)
		fails(t, s, api.ErrLarge)
	}
	full, _ := many(api.MaxAttrs)
	for _, x := range []struct {
		behind string
		err    api.Errno
	}{
		{" y=''", api.ErrLarge}, {" y='' ", api.ErrLarge}, {" y='' 1", api.ErrLarge}, {" y=''z=''", api.ErrLarge}, {" y='' x0=''", api.ErrLarge}, {" y='' z='&'", api.ErrLarge},
		{" 1", api.ErrName}, {"y", api.ErrMark}, {" y", api.ErrMark}, {" y=", api.ErrMark}, {" y='", api.ErrMark}, {" y='&'", api.ErrRef}, {" x0=''", api.ErrTwice}, {" x31='1'", api.ErrTwice},
	} {
		fails(t, full+x.behind, x.err)
	}
}

// piece is an attribute as it stands in a tag's text, with a blank ahead.
type piece struct {
	ahead, name, equals, open, value, closing string
}

func (p piece) String() string {
	return p.ahead + p.name + p.equals + p.open + p.value + p.closing
}

// fault makes something wrong of an attribute.
type fault struct {
	step int
	err  api.Errno
	make func(p *piece)
}

// faults lists the faults of an attribute by the steps in whose order they count.
func faults() []fault {
	l := []fault{
		{0, api.ErrMark, func(p *piece) { p.ahead = "" }},
		{1, api.ErrName, func(p *piece) { p.name = ":" + p.name }},
		{1, api.ErrName, func(p *piece) { p.name = "" }},
		{2, api.ErrMark, func(p *piece) { p.equals = " " }},
		{2, api.ErrMark, func(p *piece) { p.equals = ">" }},
		{3, api.ErrMark, func(p *piece) { p.open = "" }},
		{4, api.ErrMark, func(p *piece) { p.closing = "" }},
		{4, api.ErrMark, func(p *piece) { p.closing = "\"" }},
	}
	for _, w := range wrongValues {
		l = append(l, fault{5, w.err, func(p *piece) { p.value = w.value }})
	}
	return l
}

// wrong is an attribute with these faults.
func wrong(full string, l ...fault) string {
	p := piece{" ", full, "=", "'", "v", "'"}
	for _, f := range l {
		f.make(&p)
	}
	return p.String()
}

// P6.1: each two of the errors in one attribute: name, =, quotes, value, ErrTwice, ErrLarge, in this order.
func TestTwoFaultsOfOne(t *testing.T) {
	full, _ := many(api.MaxAttrs)
	l := faults()
	for _, f := range l {
		for _, g := range l {
			if f.step >= g.step {
				continue
			}
			for _, ahead := range []string{"a w='1'", "a y='1'", full} {
				fails(t, ahead+wrong("y", f, g), f.err)
			}
		}
		fails(t, "a x0='1'"+wrong("x0", f), f.err)
		fails(t, "a x0='1' w='1'"+wrong("x0", f), f.err)
		fails(t, full+wrong("x0", f), f.err)
		fails(t, full+wrong("y", f), f.err)
	}
	fails(t, full+wrong("x0"), api.ErrTwice)
	fails(t, full+wrong("y"), api.ErrLarge)
}

// P6.1: of errors in two attributes, the first one's counts.
func TestFaultsOfTwo(t *testing.T) {
	later := []string{" y=\"1\"", "z=\"1\"", " z=\"1\"z", " 1=\"1\"", " =\"1\"", " z", " z \"1\"", " z=1", " z=\"1", " z=\"&\"", " z=\"\x01\"", " z=\"\xff\"", " z=\"\xc3\"", " w=\"1\"", " x0=\"1\""}
	full, _ := many(api.MaxAttrs)
	almost, _ := many(api.MaxAttrs - 1)
	for _, second := range later {
		for _, f := range faults() {
			for _, ahead := range []string{"a w='1'", almost, full} {
				fails(t, ahead+wrong("y", f)+second, f.err)
				fails(t, ahead+wrong("y", f)+" v=\"\""+second, f.err)
			}
		}
		fails(t, "a w='1'"+wrong("w")+second, api.ErrTwice)
		fails(t, full+wrong("x31")+second, api.ErrTwice)
		fails(t, full+wrong("y")+second, api.ErrLarge)
		fails(t, almost+wrong("y")+wrong("z")+second, api.ErrLarge)
		// The element's own name stands ahead of all attributes.
		fails(t, "1 w='1'"+second, api.ErrName)
		fails(t, "a="+second, api.ErrMark)
	}
}

// words is the chapter's words as patterns; blanks, names and quotes are written out anew.
type words struct {
	stretch, name, ahead, over, pair, whole *regexp.Regexp
}

func newWords() words {
	const (
		start  = `A-Z_a-z\x{c0}-\x{d6}\x{d8}-\x{f6}\x{f8}-\x{2ff}\x{370}-\x{37d}\x{37f}-\x{1fff}\x{200c}\x{200d}\x{2070}-\x{218f}\x{2c00}-\x{2fef}\x{3001}-\x{d7ff}\x{f900}-\x{fdcf}\x{fdf0}-\x{fffd}\x{10000}-\x{effff}`
		part   = start + `\-.0-9\x{b7}\x{300}-\x{36f}\x{203f}\x{2040}`
		plain  = `[` + start + `][` + part + `]*`
		full   = plain + `(?::` + plain + `)?`
		blank  = `[\x09\x0a\x0d\x20]`
		behind = blank + `*=` + blank + `*(?:"([^"]*)"|'([^']*)')`
	)
	return words{
		stretch: regexp.MustCompile(`^[:` + part + `]*`),
		name:    regexp.MustCompile(`^` + full + `$`),
		ahead:   regexp.MustCompile(`^` + blank + `+`),
		over:    regexp.MustCompile(`^` + blank + `*$`),
		pair:    regexp.MustCompile(`^` + behind),
		whole:   regexp.MustCompile(`^` + full + `(?:` + blank + `+` + full + behind + `)*` + blank + `*$`),
	}
}

// parse is Parse, by the patterns.
func (w words) parse(s string) (api.Tag, api.Errno) {
	full := w.stretch.FindString(s)
	if !w.name.MatchString(full) {
		return api.Tag{}, api.ErrName
	}
	tag := api.Tag{Name: full}
	seen := map[string]bool{}
	for s = s[len(full):]; !w.over.MatchString(s); {
		ahead := w.ahead.FindString(s)
		if ahead == "" {
			return api.Tag{}, api.ErrMark
		}
		s = s[len(ahead):]
		full := w.stretch.FindString(s)
		if !w.name.MatchString(full) {
			return api.Tag{}, api.ErrName
		}
		s = s[len(full):]
		m := w.pair.FindStringSubmatch(s)
		if m == nil {
			return api.Tag{}, api.ErrMark
		}
		s = s[len(m[0]):]
		value, _, err := ref.Value(m[1] + m[2])
		if err != api.OK {
			return api.Tag{}, err
		}
		if seen[full] {
			return api.Tag{}, api.ErrTwice
		}
		seen[full] = true
		if len(seen) > api.MaxAttrs {
			return api.Tag{}, api.ErrLarge
		}
		tag.Attrs = append(tag.Attrs, api.Raw{Name: full, Value: value})
	}
	return tag, api.OK
}

// holds holds Parse of s against the words, and answers the error.
func (w words) holds(t *testing.T, s string) api.Errno {
	t.Helper()
	want, wrong := w.parse(s)
	got, err := Parse(s)
	if !same(got, want) || err != wrong {
		t.Fatalf("Parse of %q: %+v, %d; not %+v, %d", s, got, err, want, wrong)
	}
	if form := w.whole.MatchString(s); form && (err == api.ErrName || err == api.ErrMark) || !form && err == api.OK {
		t.Fatalf("Parse of %q: %d; of its form: %v", s, err, form)
	}
	return err
}

// made makes a tag's text, right or wrong.
func made(chance *rand.Rand) string {
	pick := func(l ...string) string { return l[chance.Intn(len(l))] }
	count, seldom := chance.Intn(5), 40
	if chance.Intn(20) == 0 {
		count, seldom = api.MaxAttrs-2+chance.Intn(5), 1000
	}
	// Now and then one part is another than it should be.
	part := func(right string, others ...string) string {
		if chance.Intn(seldom) == 0 {
			return pick(others...)
		}
		return right
	}
	some := func() string { return pick("", "", " ", "\t", "\r\n", "  ") }
	s := part(pick("a", "p:a", "\u00e9"), "", " a", "1", "a:b:c", "a\u00d7", "\xff")
	for i := range count {
		full := part(pick("x", "p:x", "\u00e9", "\xff")+strconv.Itoa(i), "x0", "p:x1", "\u00e92", "", "1", ":x", "x:", "a:b:c", "x\u00d7")
		quote := pick("'", "\"")
		value := ""
		for range chance.Intn(4) {
			value += part(pick("v", " ", "\n", "\t", "\r", "&lt;", "&#10;", "&quot;", "&#x27;", "=", "<", "\u00e9", "\U0001f600"), "'", "\"", "&", "&x;", "\x01", "\xff", "\xc3", "\ufffe", "&#0;")
		}
		s += part(pick(" ", " ", "\n", "\t\r ", "  "), "", "\u00a0", "/", "\x0c") + full + part(some()+"="+some(), "", " ", "==", "=1") + part(quote, "", "'", "\"", "`") + value + part(quote, "", "'", "\"")
	}
	return s + part(some(), "/", "x", " x", "=", "'", "\x00")
}

// P6.1: many texts, against the chapter's words tried out anew.
func TestAgainstTheWords(t *testing.T) {
	w := newWords()
	chance := rand.New(rand.NewSource(6))
	seen := map[api.Errno]int{}
	for range 100000 {
		seen[w.holds(t, made(chance))]++
	}
	for _, err := range []api.Errno{api.OK, api.ErrUtf, api.ErrChar, api.ErrName, api.ErrRef, api.ErrMark, api.ErrCut, api.ErrTwice, api.ErrLarge} {
		if seen[err] < 50 {
			t.Errorf("too few texts answer %d: %d", err, seen[err])
		}
	}
}

// P6.1, and P1 of the document: each text of a few of the bytes that matter, alone and behind beginnings of tags, against the words.
func TestShortTexts(t *testing.T) {
	w := newWords()
	var behind func(s string, n int)
	behind = func(s string, n int) {
		w.holds(t, s)
		for i := 0; n > 0 && i < len("a:1 \n='\"&;\xff\x01"); i++ {
			behind(s+"a:1 \n='\"&;\xff\x01"[i:i+1], n-1)
		}
	}
	behind("", 4)
	for _, s := range []string{"a ", "a b", "a b=", "a b='", "a b=\"&", "a b='1'", "a a='' "} {
		behind(s, 4)
	}
}

// P6.1: each rune where a name, a blank, =, a quote or a value must stand.
func TestEachRune(t *testing.T) {
	is := func(s string, right bool, wrong api.Errno) {
		got, err := Parse(s)
		if right && err != api.OK || !right && (err != wrong || got.Name != "" || got.Attrs != nil) {
			t.Fatalf("Parse of %q: %+v, %d", s, got, err)
		}
	}
	for r := rune(0); r <= utf8.MaxRune; r++ {
		if !utf8.ValidRune(r) {
			continue
		}
		s := string(r)
		is(s, char.Start(r), api.ErrName)
		is("a"+s, char.Part(r) || char.Blank(r), nameOrMark(r))
		is("a "+s+"=''", char.Start(r), api.ErrName)
		is("a x"+s+"=''", char.Part(r) || char.Blank(r), nameOrMark(r))
		is("a x='"+s+"'", char.Char(r) && r != '\'' && r != '&', valueError(r))
	}
}

// nameOrMark is the error of a rune behind a name, where it may neither go on with it nor be a blank: a colon is of the name.
func nameOrMark(r rune) api.Errno {
	if r == ':' {
		return api.ErrName
	}
	return api.ErrMark
}

// valueError is the error of a rune between two ', if it may not stand there.
func valueError(r rune) api.Errno {
	switch r {
	case '\'':
		return api.ErrMark
	case '&':
		return api.ErrRef
	}
	return api.ErrChar
}

// P6.2: what is printed; Print asks of no form.
func TestPrint(t *testing.T) {
	for _, x := range []struct {
		want, full string
		attrs      []string
	}{
		{"a", "a", nil},
		{"p:a", "p:a", nil},
		{"\u00e9", "\u00e9", nil},
		{"a x=\"1\"", "a", []string{"x", "1"}},
		{"a x=\"\"", "a", []string{"x", ""}},
		{"a x=\"1\" p:y=\"2\" \u00e9=\"3\"", "a", []string{"x", "1", "p:y", "2", "\u00e9", "3"}},
		{"a y=\"2\" x=\"1\"", "a", []string{"y", "2", "x", "1"}},
		{"a x=\"&amp;\"", "a", []string{"x", "&"}},
		{"a x=\"&lt;\"", "a", []string{"x", "<"}},
		{"a x=\"&gt;\"", "a", []string{"x", ">"}},
		{"a x=\"&quot;\"", "a", []string{"x", "\""}},
		{"a x=\"&#x9;\"", "a", []string{"x", "\t"}},
		{"a x=\"&#xA;\"", "a", []string{"x", "\n"}},
		{"a x=\"&#xD;\"", "a", []string{"x", "\r"}},
		{"a x=\"&#xD;&#xA;\"", "a", []string{"x", "\r\n"}},
		{"a x=\"'\"", "a", []string{"x", "'"}},
		{"a x=\" \"", "a", []string{"x", " "}},
		{"a x=\"&amp;lt;\" y=\"'&quot;' \u00e9 &lt;b/&gt;\"", "a", []string{"x", "&lt;", "y", "'\"' \u00e9 <b/>"}},
		{"p:a b=\"x y&lt;&quot;\" q:c=\"'&#xA;\"", "p:a", []string{"b", "x y<\"", "q:c", "'\n"}},
		{"", "", nil},
		{" =\"\"", "", []string{"", ""}},
		{"1 & x=\"1\" x=\"2\"", "1 &", []string{"x", "1", "x", "2"}},
		{"\xff \xfe=\"\xfd\x01\"", "\xff", []string{"\xfe", "\xfd\x01"}},
	} {
		if got := Print(api.Tag{Name: x.full, Attrs: pairs(x.attrs...)}); got != x.want {
			t.Errorf("Print of %q, %q: %q; not %q", x.full, x.attrs, got, x.want)
		}
	}
	if got := Print(api.Tag{Name: "a", Attrs: []api.Raw{}}); got != "a" {
		t.Errorf("Print of an empty list: %q", got)
	}
	full, l := many(api.MaxAttrs + 10)
	if got := Print(api.Tag{Name: "a", Attrs: pairs(l...)}); got != strings.ReplaceAll(full, "'", "\"") {
		t.Errorf("Print of more than MaxAttrs: %q", got)
	}
}

// spaced prints a tag with other blanks and quotes.
func spaced(tag api.Tag, chance *rand.Rand) string {
	blanks := func(least int) string {
		s := ""
		for range least + chance.Intn(3) {
			s += "\t\n\r "[chance.Intn(4):][:1]
		}
		return s
	}
	s := tag.Name
	for _, a := range tag.Attrs {
		s += blanks(1) + a.Name + blanks(0) + "=" + blanks(0)
		if chance.Intn(2) == 0 {
			s += "\"" + ref.Quote(a.Value) + "\""
		} else {
			s += "'" + strings.ReplaceAll(ref.Quote(a.Value), "'", "&apos;") + "'"
		}
	}
	return s + blanks(0)
}

// some makes a right tag: names, none of them twice, and values all of whose runes may stand in a text.
func some(chance *rand.Rand) api.Tag {
	plain := func() string {
		l := []string{"a", "B", "_", "x1", "\u00e9", "\U00010000", "\xff", "a-.9", "xmlns", "a\u00b7"}
		return l[chance.Intn(len(l))] + l[chance.Intn(len(l))]
	}
	full := func() string {
		if chance.Intn(2) == 0 {
			return plain()
		}
		return plain() + ":" + plain()
	}
	tag := api.Tag{Name: full()}
	for range chance.Intn(api.MaxAttrs + 1) {
		a := api.Raw{Name: full()}
		for range chance.Intn(6) {
			a.Value += []string{"a", " ", "\t", "\n", "\r", "&", "<", ">", "\"", "'", "=", ";", "&lt;", "&#xA;", "\u00e9", "\ufffd", "\U0010ffff", "]]>", "/"}[chance.Intn(19)]
		}
		if !slices.ContainsFunc(tag.Attrs, func(b api.Raw) bool { return b.Name == a.Name }) {
			tag.Attrs = append(tag.Attrs, a)
		}
	}
	return tag
}

// back holds that what is printed, so or with more blanks, is read as it was.
func back(t *testing.T, tag api.Tag, chance *rand.Rand) {
	t.Helper()
	for _, s := range []string{Print(tag), Print(tag) + "\r\n", spaced(tag, chance)} {
		if got, err := Parse(s); !same(got, tag) || err != api.OK {
			t.Fatalf("%+v as %q: %+v, %d", tag, s, got, err)
		}
	}
}

// P6.2: what is printed is read as it was.
func TestReadBack(t *testing.T) {
	chance := rand.New(rand.NewSource(62))
	for _, n := range someNames {
		back(t, api.Tag{Name: n}, chance)
		back(t, api.Tag{Name: n, Attrs: pairs(n, "v")}, chance)
	}
	_, l := many(api.MaxAttrs)
	back(t, api.Tag{Name: "a", Attrs: pairs(l...)}, chance)
	for range 5000 {
		back(t, some(chance), chance)
	}
	for r := rune(0); r <= utf8.MaxRune; r++ {
		if !char.Char(r) {
			continue
		}
		tag := api.Tag{Name: "a", Attrs: pairs("x", string(r), "y", "a"+string(r)+"\r\n"+string(r))}
		if got, err := Parse(Print(tag)); !same(got, tag) || err != api.OK {
			t.Fatalf("%+v: %+v, %d", tag, got, err)
		}
	}
}

// P6.2: what is read and printed is read again as the same, and printed as the same.
func TestPrintedAgain(t *testing.T) {
	chance := rand.New(rand.NewSource(26))
	for range 20000 {
		tag, err := Parse(made(chance))
		if err != api.OK {
			continue
		}
		s := Print(tag)
		again, err := Parse(s)
		if !same(again, tag) || err != api.OK || Print(again) != s {
			t.Fatalf("%+v as %q: %+v, %d", tag, s, again, err)
		}
	}
}

// shares tells whether two texts have bytes of memory in common.
func shares(a, b string) bool {
	if a == "" || b == "" {
		return false
	}
	x, y := uintptr(unsafe.Pointer(unsafe.StringData(a))), uintptr(unsafe.Pointer(unsafe.StringData(b)))
	return x < y+uintptr(len(b)) && y < x+uintptr(len(a))
}

// P6.3: what is handed in stays, and answers share no memory with it or with one another.
func TestNewMemory(t *testing.T) {
	chance := rand.New(rand.NewSource(63))
	for range 500 {
		tag := some(chance)
		kept := api.Tag{Name: tag.Name, Attrs: slices.Clone(tag.Attrs)}
		s := Print(tag)
		if !same(tag, kept) {
			t.Fatalf("%+v was made %+v", kept, tag)
		}
		printed := strings.Clone(s)
		one, _ := Parse(s)
		two, _ := Parse(s)
		for i := range one.Attrs {
			one.Attrs[i] = api.Raw{Name: "other", Value: "other"}
		}
		one.Attrs = append(one.Attrs, api.Raw{Name: "more", Value: "more"})
		three, _ := Parse(s)
		if !same(two, kept) || !same(three, kept) || s != printed {
			t.Fatalf("%q: a change of one answer changes another: %+v, %+v", s, two, three)
		}
		for i := range tag.Attrs {
			tag.Attrs[i] = api.Raw{Name: "other", Value: "other"}
		}
		if s != printed || Print(two) != printed || Print(kept) != printed {
			t.Fatalf("%q: a change of what was handed in changes an answer", s)
		}
	}
}

// P6.3: no text of an answer lies in what was handed in.
func TestNewTexts(t *testing.T) {
	chance := rand.New(rand.NewSource(36))
	for _, tag := range []api.Tag{{Name: strings.Repeat("a", 10)}, some(chance), some(chance)} {
		s := Print(tag)
		if shares(s, tag.Name) {
			t.Errorf("Print of %+v lies in the tag's name", tag)
		}
		for _, a := range tag.Attrs {
			if shares(s, a.Name) || shares(s, a.Value) {
				t.Errorf("Print of %+v lies in what was handed in", tag)
			}
		}
		got, _ := Parse(s)
		if shares(got.Name, s) {
			t.Errorf("the name that is read of %q lies in it", s)
		}
		for _, a := range got.Attrs {
			if shares(a.Name, s) || shares(a.Value, s) {
				t.Errorf("%+v of %q lies in it", a, s)
			}
		}
	}
}

// P1 of the document: the calls end, and none panics, at long texts.
func TestLong(t *testing.T) {
	const n = 1 << 20
	long := func(s string) string { return strings.Repeat(s, n) }
	reads(t, long("a"), long("a"))
	reads(t, "a"+long(" "), "a")
	reads(t, "a"+long("\n")+"x"+long(" ")+"="+long("\t")+"'"+long("&lt;")+"'"+long("\r"), "a", "x", long("<"))
	for _, x := range []struct {
		s   string
		err api.Errno
	}{
		{long(" "), api.ErrName}, {long(":"), api.ErrName}, {long("1"), api.ErrName}, {long("a:"), api.ErrName}, {long("a "), api.ErrMark}, {long("="), api.ErrName}, {long("a="), api.ErrMark},
		{"a x='" + long("\""), api.ErrMark}, {"a x='" + long("v"), api.ErrMark}, {"a x='" + long("&") + "'", api.ErrRef}, {"a x='" + long("\u00e9") + "\xff'", api.ErrUtf},
		{"a" + long(" x=''"), api.ErrTwice}, {"a x=''" + long("y"), api.ErrMark},
	} {
		fails(t, x.s, x.err)
	}
	s, _ := many(api.MaxAttrs)
	fails(t, s+long(" y=''"), api.ErrLarge)
	if got := Print(api.Tag{Name: "a", Attrs: pairs("x", long("\n"))}); got != "a x=\""+long("&#xA;")+"\"" {
		t.Error("a long value is printed otherwise")
	}
}

// P6.1: an answer's names are names (chapter 3), none of the attributes' twice, and no more than MaxAttrs.
func TestWhatIsAnswered(t *testing.T) {
	chance := rand.New(rand.NewSource(61))
	for range 20000 {
		s := made(chance)
		tag, err := Parse(s)
		if err != api.OK {
			continue
		}
		seen := map[string]bool{}
		for _, a := range tag.Attrs {
			if _, _, ok := name.Split(a.Name); !ok || seen[a.Name] {
				t.Fatalf("Parse of %q: %+v", s, tag)
			}
			seen[a.Name] = true
		}
		if _, _, ok := name.Split(tag.Name); !ok || len(seen) > api.MaxAttrs {
			t.Fatalf("Parse of %q: %+v", s, tag)
		}
	}
}
