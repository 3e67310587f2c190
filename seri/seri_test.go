package seri

import (
	"fmt"
	"math/rand"
	"reflect"
	"slices"
	"strconv"
	"strings"
	"testing"
	"unicode/utf8"
	"unsafe"

	"oriel/api"
	"oriel/char"
	"oriel/name"
	"oriel/ref"
	"oriel/tree"
	"oriel/well"
	"oriel/word"
)

// xml is the space of the prefix that stands fast.
const xml = api.XmlSpace

// attrs makes attributes of spaces, local names and values in turn.
func attrs(l ...string) []api.Attr {
	var list []api.Attr
	for i := 0; i < len(l); i += 3 {
		list = append(list, api.Attr{Name: api.Name{Space: l[i], Local: l[i+1]}, Value: l[i+2]})
	}
	return list
}

// element makes a tree of a space, a name and children.
func element(space, local string, kids ...api.Tree) api.Tree {
	return api.Tree{Name: api.Name{Space: space, Local: local}, Kids: kids}
}

// with is a tree with attributes, of spaces, local names and values in turn.
func with(t api.Tree, l ...string) api.Tree {
	t.Attrs = attrs(l...)
	return t
}

// text makes the tree of a text.
func text(s string) api.Tree {
	return api.Tree{IsText: true, Text: s}
}

// many makes so many attributes without a space, of names of their own.
func many(n int) []api.Attr {
	var l []api.Attr
	for i := range n {
		l = append(l, api.Attr{Name: api.Name{Local: "x" + strconv.Itoa(i)}})
	}
	return l
}

// spread makes so many attributes, each in a space of its own.
func spread(n int) []api.Attr {
	l := many(n)
	for i := range l {
		l[i].Name = api.Name{Space: "s" + strconv.Itoa(i), Local: "x"}
	}
	return l
}

// deep is so many elements within each other.
func deep(n int) api.Tree {
	t := element("", "a")
	for range n - 1 {
		t = element("", "a", t)
	}
	return t
}

// same tells whether two trees are alike, also in what their kind doesn't have; nil and empty lists are one.
func same(a, b api.Tree) bool {
	return a.IsText == b.IsText && a.Text == b.Text && a.Name == b.Name && slices.Equal(a.Attrs, b.Attrs) && slices.EqualFunc(a.Kids, b.Kids, same)
}

// copied is a tree with lists of its own.
func copied(t api.Tree) api.Tree {
	t.Attrs, t.Kids = slices.Clone(t.Attrs), slices.Clone(t.Kids)
	for i := range t.Kids {
		t.Kids[i] = copied(t.Kids[i])
	}
	return t
}

// show is the start of how something is printed.
func show(x any) string {
	return fmt.Sprintf("%.300q", fmt.Sprint(x))
}

// prints holds a tree's text within a default space.
func prints(t *testing.T, x api.Tree, space, want string) {
	t.Helper()
	if got := Within(x, space); got != want {
		t.Errorf("%s within %q: %.300q, not %.300q", show(x), space, got, want)
	}
	if space != "" {
		return
	}
	if got := Print(x); got != want {
		t.Errorf("%s: %.300q, not %.300q", show(x), got, want)
	}
}

// light holds whether a tree is light.
func light(t *testing.T, x api.Tree, want bool) {
	t.Helper()
	if Light(x) != want {
		t.Errorf("Light of %s: %t", show(x), !want)
	}
}

// read answers the tree of a text that is a document.
func read(s string) (api.Tree, bool) {
	l, _, err := well.Events(s)
	if err != api.OK {
		return api.Tree{}, false
	}
	return tree.Of(l)
}

// readBack holds that a light element's text is a document, whose tree is the element.
func readBack(t *testing.T, x api.Tree) {
	t.Helper()
	light(t, x, true)
	s := Print(x)
	if got, ok := read(s); !ok || !same(got, x) {
		t.Errorf("%s, as %.300q, was read as %s, %t", show(x), s, show(got), ok)
	}
}

// P11.1: the chapter's example.
func TestExample(t *testing.T) {
	x := with(element("u", "a"), "v", "b", "1")
	prints(t, x, "", `<a xmlns="u" xmlns:n0="v" n0:b="1"/>`)
	readBack(t, x)
}

// P11.1: an element in each space, within each default space.
func TestElementSpaces(t *testing.T) {
	for _, x := range []struct{ own, within, want string }{
		{"", "", `<a/>`},
		{"", "u", `<a xmlns=""/>`},
		{"", "v", `<a xmlns=""/>`},
		{"", xml, `<a xmlns=""/>`},
		{"u", "", `<a xmlns="u"/>`},
		{"u", "u", `<a/>`},
		{"u", "v", `<a xmlns="u"/>`},
		{"u", xml, `<a xmlns="u"/>`},
		{"u", "U", `<a xmlns="u"/>`},
		{"u", "u ", `<a xmlns="u"/>`},
		{"u ", "u", `<a xmlns="u "/>`},
		{xml, "", `<xml:a/>`},
		{xml, "u", `<xml:a/>`},
		{xml, xml, `<xml:a/>`},
		{xml + "/", "", `<a xmlns="` + xml + `/"/>`},
		{api.XmlnsSpace, "", `<a xmlns="` + api.XmlnsSpace + `"/>`},
		{"&", "&", `<a/>`},
		{"&", "&amp;", `<a xmlns="&amp;"/>`},
		{"&amp;", "&", `<a xmlns="&amp;amp;"/>`},
	} {
		prints(t, element(x.own, "a"), x.within, x.want)
		// What stands behind the start tag doesn't hang on what it says.
		prints(t, element(x.own, "a", text("t")), x.within, strings.TrimSuffix(x.want, "/>")+">t</"+map[bool]string{true: "xml:"}[x.own == xml]+"a>")
	}
}

// P11.1: the default space of children is their parent's, but within one in XmlSpace the one around it; behind an element, it is as it was.
func TestChildrensSpaces(t *testing.T) {
	e := element
	for _, x := range []struct {
		tree         api.Tree
		within, want string
	}{
		{e("u", "a", e("u", "b")), "", `<a xmlns="u"><b/></a>`},
		{e("u", "a", e("u", "b", e("u", "c"))), "", `<a xmlns="u"><b><c/></b></a>`},
		{e("u", "a", e("u", "b", e("u", "c"))), "u", `<a><b><c/></b></a>`},
		{e("u", "a", e("", "b")), "", `<a xmlns="u"><b xmlns=""/></a>`},
		{e("u", "a", e("v", "b")), "", `<a xmlns="u"><b xmlns="v"/></a>`},
		{e("", "a", e("u", "b")), "", `<a><b xmlns="u"/></a>`},
		{e("", "a", e("u", "b")), "u", `<a xmlns=""><b xmlns="u"/></a>`},
		{e("", "a", e("", "b")), "u", `<a xmlns=""><b/></a>`},
		{e("u", "a", e("v", "b"), e("u", "c")), "", `<a xmlns="u"><b xmlns="v"/><c/></a>`},
		{e("u", "a", e("v", "b"), e("v", "c")), "", `<a xmlns="u"><b xmlns="v"/><c xmlns="v"/></a>`},
		{e("u", "a", e("v", "b", e("u", "c"), e("v", "d")), e("u", "e")), "", `<a xmlns="u"><b xmlns="v"><c xmlns="u"/><d/></b><e/></a>`},
		{e("", "a", e("u", "b", e("", "c", e("u", "d"))), e("", "f")), "", `<a><b xmlns="u"><c xmlns=""><d xmlns="u"/></c></b><f/></a>`},
		{e(xml, "a", e("", "b")), "", `<xml:a><b/></xml:a>`},
		{e(xml, "a", e("", "b")), "u", `<xml:a><b xmlns=""/></xml:a>`},
		{e(xml, "a", e("u", "b")), "u", `<xml:a><b/></xml:a>`},
		{e(xml, "a", e(xml, "b", e("u", "c")), e("v", "d")), "u", `<xml:a><xml:b><c/></xml:b><d xmlns="v"/></xml:a>`},
		{e("u", "a", e(xml, "b", e("u", "c"), e("", "d")), e("u", "f")), "", `<a xmlns="u"><xml:b><c/><d xmlns=""/></xml:b><f/></a>`},
		{e("u", "a", text("x"), e("", "b", text("y")), text("z"), e("u", "c")), "", `<a xmlns="u">x<b xmlns="">y</b>z<c/></a>`},
	} {
		prints(t, x.tree, x.within, x.want)
		readBack(t, x.tree)
	}
}

// P11.1: the bindings and names of attributes; one in the element's own space has a binding too, and the default space is none of theirs.
func TestAttributes(t *testing.T) {
	for _, x := range []struct {
		tree         api.Tree
		within, want string
	}{
		{with(element("", "a"), "", "x", "1"), "", `<a x="1"/>`},
		{with(element("", "a"), "", "y", "1", "", "x", "2"), "", `<a y="1" x="2"/>`},
		{with(element("", "a"), "", "x", ""), "", `<a x=""/>`},
		{with(element("", "a"), xml, "lang", "e"), "", `<a xml:lang="e"/>`},
		{with(element(xml, "a"), xml, "a", "e"), "", `<xml:a xml:a="e"/>`},
		{with(element("u", "a"), xml, "lang", "e", xml, "id", ""), "", `<a xmlns="u" xml:lang="e" xml:id=""/>`},
		{with(element("", "a"), "u", "x", "1"), "", `<a xmlns:n0="u" n0:x="1"/>`},
		{with(element("", "a"), "u", "x", "1"), "u", `<a xmlns="" xmlns:n0="u" n0:x="1"/>`},
		{with(element("u", "a"), "u", "x", "1"), "", `<a xmlns="u" xmlns:n0="u" n0:x="1"/>`},
		{with(element("u", "a"), "u", "x", "1"), "u", `<a xmlns:n0="u" n0:x="1"/>`},
		{with(element("u", "a"), "", "x", "1"), "u", `<a x="1"/>`},
		{with(element("", "a"), "", "x", "1"), "u", `<a xmlns="" x="1"/>`},
		{with(element(xml, "a"), "u", "x", "1"), "u", `<xml:a xmlns:n0="u" n0:x="1"/>`},
		{with(element("", "a"), "u", "x", "1", "u", "y", "2"), "", `<a xmlns:n0="u" n0:x="1" n0:y="2"/>`},
		{with(element("", "a"), "u", "x", "1", "v", "x", "2"), "", `<a xmlns:n0="u" xmlns:n1="v" n0:x="1" n1:x="2"/>`},
		{with(element("", "a"), "v", "x", "1", "u", "x", "2"), "", `<a xmlns:n0="v" xmlns:n1="u" n0:x="1" n1:x="2"/>`},
		{with(element("", "a"), "v", "x", "1", "u", "x", "2", "v", "y", "3"), "", `<a xmlns:n0="v" xmlns:n1="u" n0:x="1" n1:x="2" n0:y="3"/>`},
		{with(element("", "a"), "v", "x", "1", "v", "y", "2", "u", "x", "3", "v", "z", "4", "w", "x", "5", "u", "y", "6"), "", `<a xmlns:n0="v" xmlns:n1="u" xmlns:n2="w" n0:x="1" n0:y="2" n1:x="3" n0:z="4" n2:x="5" n1:y="6"/>`},
		{with(element("", "a"), "", "x", "1", "u", "x", "2", xml, "x", "3", "v", "x", "4", "", "y", "5"), "", `<a xmlns:n0="u" xmlns:n1="v" x="1" n0:x="2" xml:x="3" n1:x="4" y="5"/>`},
		{with(element("u", "a"), "v", "b", "1", "u", "c", "2"), "w", `<a xmlns="u" xmlns:n0="v" xmlns:n1="u" n0:b="1" n1:c="2"/>`},
		{with(element("", "n0"), "n1", "n0", "n1", "n0", "n1", "n0"), "", `<n0 xmlns:n0="n1" xmlns:n1="n0" n0:n0="n1" n1:n1="n0"/>`},
		{with(element("", "xmlns"), "u", "xmlns", "1", xml, "xmlns", "2"), "", `<xmlns xmlns:n0="u" n0:xmlns="1" xml:xmlns="2"/>`},
	} {
		prints(t, x.tree, x.within, x.want)
		readBack(t, x.tree)
	}
	// Each element numbers anew, also within another one that uses these prefixes, and behind one.
	b := with(element("", "b"), "v", "x", "2")
	x := with(element("", "a", b, with(element("", "c"), "w", "x", "3", "u", "x", "4")), "u", "x", "1")
	prints(t, x, "", `<a xmlns:n0="u" n0:x="1"><b xmlns:n0="v" n0:x="2"/><c xmlns:n0="w" xmlns:n1="u" n0:x="3" n1:x="4"/></a>`)
	readBack(t, x)
	// What is no light element's is printed all the same.
	prints(t, with(element("", "a"), "", "xmlns", "u", "", "x", "1", "", "x", "2", api.XmlnsSpace, "p", "3", "u", "", "<"), "", `<a xmlns:n0="`+api.XmlnsSpace+`" xmlns:n1="u" xmlns="u" x="1" x="2" n0:p="3" n1:="&lt;"/>`)
}

// P11.1: numbers of more than one digit.
func TestManySpaces(t *testing.T) {
	x := element("", "a")
	x.Attrs = spread(120)
	want := "<a"
	for i := range 120 {
		want += fmt.Sprintf(` xmlns:n%d="s%d"`, i, i)
	}
	for i := range 120 {
		want += fmt.Sprintf(` n%d:x=""`, i)
	}
	prints(t, x, "", want+"/>")
}

// P11.1: what must be escaped, in texts, in values, and in spaces.
func TestEscaped(t *testing.T) {
	for _, x := range []struct{ s, text, value string }{
		{"&", "&amp;", "&amp;"},
		{"<", "&lt;", "&lt;"},
		{">", "&gt;", "&gt;"},
		{`"`, `"`, "&quot;"},
		{"'", "'", "'"},
		{"\t", "\t", "&#x9;"},
		{"\n", "\n", "&#xA;"},
		{"\r", "&#xD;", "&#xD;"},
		{" ", " ", " "},
		{"\r\n", "&#xD;\n", "&#xD;&#xA;"},
		{"]]>", "]]&gt;", "]]&gt;"},
		{"&lt;", "&amp;lt;", "&amp;lt;"},
		{"&#xA;", "&amp;#xA;", "&amp;#xA;"},
		{"<!--x-->", "&lt;!--x--&gt;", "&lt;!--x--&gt;"},
		{"</a>", "&lt;/a&gt;", "&lt;/a&gt;"},
		{"\u00e9\U00010000\ufffd\u2028", "\u00e9\U00010000\ufffd\u2028", "\u00e9\U00010000\ufffd\u2028"},
		{`a&b<c>d"e'f` + "\tg\nh\ri", `a&amp;b&lt;c&gt;d"e'f` + "\tg\nh&#xD;i", `a&amp;b&lt;c&gt;d&quot;e'f&#x9;g&#xA;h&#xD;i`},
	} {
		prints(t, text(x.s), "", x.text)
		prints(t, text(x.s), x.s, x.text)
		prints(t, element("", "a", text(x.s)), "", "<a>"+x.text+"</a>")
		prints(t, element(x.s, "a"), "", `<a xmlns="`+x.value+`"/>`)
		prints(t, element(x.s, "a"), x.s, `<a/>`)
		prints(t, with(element("", "a"), "", "x", x.s), "", `<a x="`+x.value+`"/>`)
		prints(t, with(element("", "a"), xml, "x", x.s), "", `<a xml:x="`+x.value+`"/>`)
		prints(t, with(element("", "a"), x.s, "x", x.s), "", `<a xmlns:n0="`+x.value+`" n0:x="`+x.value+`"/>`)
		all := with(element(x.s, "a", text(x.s), element("", "b"), text(x.s)), "", "x", x.s, x.s, "x", x.s, x.s+"!", "x", "", xml, "x", x.s)
		readBack(t, all)
	}
	// Bytes that are no rune's stay, and names stand as they are.
	prints(t, with(element("\xff", "<\"\xff", text("\xff&")), "\x00", "'\r", "\xe2\x82"), "", "<<\"\xff xmlns=\"\xff\" xmlns:n0=\"\x00\" n0:'\r=\"\xe2\x82\">\xff&amp;</<\"\xff>")
}

// P11.1: an element without children is one tag, one whose only child has an empty text is two.
func TestChildren(t *testing.T) {
	empty := element("", "a")
	empty.Kids = []api.Tree{}
	prints(t, empty, "", "<a/>")
	prints(t, element("", "a"), "", "<a/>")
	prints(t, element("", "a", text("")), "", "<a></a>")
	prints(t, element("", "a", text(""), text("")), "", "<a></a>")
	prints(t, element("", "a", element("", "b")), "", "<a><b/></a>")
	prints(t, element("", "a", element("", "b", text(""))), "", "<a><b></b></a>")
	prints(t, element("", "a", element("", "b"), text("x"), element("", "c")), "", "<a><b/>x<c/></a>")
	prints(t, element("", "a", text("x"), element("", "b"), text("y")), "", "<a>x<b/>y</a>")
	prints(t, element("", "a", text("x"), text("y")), "", "<a>xy</a>")
	prints(t, element("", "a", text(" ")), "", "<a> </a>")
	prints(t, api.Tree{}, "", "</>")
	prints(t, api.Tree{}, "u", `< xmlns=""/>`)
	prints(t, api.Tree{Kids: []api.Tree{{}}}, "", "<></></>")
}

// P11.1: a text alone; its default space is nothing to it.
func TestTextAlone(t *testing.T) {
	for _, space := range []string{"", "u", xml} {
		prints(t, text("x"), space, "x")
		prints(t, text(""), space, "")
		prints(t, text(" <a/> "), space, " &lt;a/&gt; ")
	}
	for _, s := range []string{"x", " ", "\r", "<a/>", "]]>", "\u00e9", "\U0010fffd", strings.Repeat("x", 100000)} {
		light(t, text(s), true)
	}
	for _, s := range []string{"", "\x00", "\xff", "x\ufffe", "\xe2\x82", "\xed\xa0\x80", "\x1f"} {
		light(t, text(s), false)
	}
}

// within are trees that hold x at different places, light if it is.
func within(x api.Tree) []api.Tree {
	l := []api.Tree{
		element("", "r", x),
		element("", "r", element("", "s", x)),
		element("u", "r", element("", "b"), x, element("", "c")),
		element("", "r", element("", "b", text("y")), element("", "s", element("", "b"), x), text("z")),
	}
	if !x.IsText {
		l = append(l, element("", "r", text("y"), x, text("z")), element("", "r", x, x, text("z"), x))
	}
	return l
}

// lights holds whether a tree is light, alone and within others; if it is, that those are read back.
func lights(t *testing.T, x api.Tree, want bool) {
	t.Helper()
	light(t, x, want)
	if want && !x.IsText {
		readBack(t, x)
	}
	for _, y := range within(x) {
		light(t, y, want)
		if want {
			readBack(t, y)
		}
	}
}

// P11.1, P11.2: trees that are light.
func TestLight(t *testing.T) {
	full := element("u", "a", text("x"))
	full.Attrs = many(15)
	apart := element("u", "a")
	apart.Attrs = spread(15)
	empty := element("", "a")
	empty.Attrs, empty.Kids = []api.Attr{}, []api.Tree{}
	for _, x := range []api.Tree{
		text("x"), text(" "), text("\r\n"), text("]]>"), element("", "a"), element("u", "a"), element(xml, "a"), empty, full, apart,
		element("", "xmlns"), element("", "xml"), element("", "n0"), element("", "\u00e9-1."), element("u", "xmlns"), element(xml, "xmlns"),
		element(" ", "a"), element("\n", "a"), element(api.XmlnsSpace+"x", "a"), element("xmlns", "xmlns"),
		with(element("", "a"), "", "x", "", "u", "x", "", "v", "x", "", xml, "x", ""),
		with(element("", "a"), "", "xml", "1", "", "xmlnsx", "1", "", "Xmlns", "2", "", "xmln", "3"),
		with(element("", "a"), "u", "xmlns", "1", xml, "xmlns", "2", " ", "xmlns", "3"),
		element("", "a", text("x"), element("", "b"), text("x")),
	} {
		lights(t, x, true)
	}
}

// P11.1: no light tree has a wrong event, two texts side by side, or another attribute than it may.
func TestNotLight(t *testing.T) {
	var wrong []api.Tree
	for _, s := range []string{"", "1", "a:b", ":", " ", "a ", "\xff", "a\xff", "\x00", "<", "-a"} {
		wrong = append(wrong, element("", s), element("u", s), element(xml, s, text("x")), with(element("", "a"), "", s, ""), with(element("", "a"), "u", "x", "", "u", s, ""))
	}
	for _, s := range []string{"\x00", "\xff", "u\ufffe", "\xe2\x82", "\xed\xa0\x80", "\x1f"} {
		wrong = append(wrong, element(s, "a"), with(element("", "a"), s, "x", ""), with(element("", "a"), "", "x", "", "", "y", s), text(s))
	}
	wrong = append(wrong,
		api.Tree{}, text(""), element(api.XmlnsSpace, "a"), with(element("", "a"), api.XmlnsSpace, "x", ""), with(element("", "a"), api.XmlnsSpace, "xmlns", ""),
		with(element("", "a"), "", "x", "1", "", "x", "1"), with(element("", "a"), "u", "x", "1", "", "x", "", "u", "x", "2"), with(element("", "a"), xml, "x", "1", xml, "x", "2"),
		with(element("", "a"), "", "xmlns", ""), with(element("u", "a"), "", "xmlns", "u"), with(element("", "a"), "", "x", "", "u", "xmlns", "", "", "xmlns", "v"), with(element(xml, "a"), "", "xmlns", ""),
		element("", "a", text("x"), text("y")), element("", "a", text("x"), text("x"), element("", "b")), element("", "a", element("", "b"), text("x"), text("y")),
		element("", "a", text("x"), element("", "b"), text("x"), text("y")), element("", "a", text("x"), text("")), element("", "a", text(""), text("")),
		element("", "a", text("")), element("", "a", text(""), element("", "b")), element("", "a", element("", "b"), text("")), element("", "a", element("", "b"), text(""), element("", "b")),
	)
	for _, x := range wrong {
		lights(t, x, false)
	}
	// Such texts are no fault of an element between, or of two that each hold one.
	lights(t, element("", "a", element("", "b", text("x")), text("x"), element("", "b", text("x")), element("", "b", text("x"))), true)
	for n := range 6 {
		var kids []api.Tree
		for i := range n {
			kids = append(kids, text("x"), element("", "b"))
			light(t, element("", "a", slices.Insert(slices.Clone(kids), 2*i, text("y"))...), false)
		}
		light(t, element("", "a", kids...), true)
		light(t, element("", "a", append(kids, text("x"))...), true)
	}
}

// P11.1, P11.2: at most 15 attributes; 15 are read back wherever their spaces are.
func TestMostAttributes(t *testing.T) {
	for n := range 40 {
		for _, l := range [][]api.Attr{many(n), spread(n)} {
			for _, space := range []string{"", "u", xml} {
				x := element(space, "a")
				x.Attrs = l
				light(t, x, n <= 15)
				if n <= 15 {
					lights(t, x, true)
				}
			}
		}
	}
	// Attributes count for each element alone.
	x := element("", "a")
	x.Attrs = spread(15)
	x.Kids = []api.Tree{copied(x), copied(x)}
	x.Kids[0].Kids = []api.Tree{copied(x)}
	lights(t, x, true)
	x.Kids[0].Kids[0].Attrs = spread(16)
	lights(t, x, false)
}

// P11.1, P11.2: MaxDepth levels are read back; beyond them a tree is printed, and light, but its text is no document.
func TestMaxDepth(t *testing.T) {
	if api.MaxDepth != 64 {
		t.Fatal("the limit is another one")
	}
	for n := 1; n <= 66; n++ {
		x := deep(n)
		want := strings.Repeat("<a>", n-1) + "<a/>" + strings.Repeat("</a>", n-1)
		prints(t, x, "", want)
		prints(t, x, "u", strings.Replace(strings.Replace(want, "<a", `<a xmlns=""`, 1), "/>", "/>", 1))
		light(t, x, true)
		if n <= 64 {
			readBack(t, x)
		} else if got, ok := read(Print(x)); ok {
			t.Errorf("%d levels were read as %s", n, show(got))
		}
	}
	// Texts are no levels, and how many stand side by side doesn't count.
	x := element("u", "a", text("x"), element("", "b"))
	for i := range 62 {
		x = element([]string{"", "u", xml}[i%3], "a", text("x"), with(element("", "b"), "u", "x", ""), x, text("y"))
	}
	readBack(t, x)
	// One wrong event in the innermost place.
	for _, y := range []api.Tree{element("", "1"), text(""), element("", "b", text("x"), text("y"))} {
		for range 64 {
			y = element("", "a", y)
		}
		light(t, y, false)
	}
}

// P11.1: of a tree made by hand what its kind doesn't have is neither printed nor any event of it.
func TestBesides(t *testing.T) {
	named, attributed, filled, all := text("x"), text("x"), text("x"), text("x")
	named.Name = api.Name{Space: "u", Local: "a"}
	attributed.Attrs = attrs("", "x", "1")
	filled.Kids = []api.Tree{element("", "k", text("z")), text("z")}
	all.Name, all.Attrs, all.Kids = api.Name{Local: "1"}, attrs("", "xmlns", "\xff", "", "xmlns", ""), []api.Tree{{}, text(""), deep(100)}
	for _, x := range []api.Tree{named, attributed, filled, all} {
		prints(t, x, "", "x")
		prints(t, x, "u", "x")
		prints(t, element("", "r", element("", "b"), x, element("", "c")), "", "<r><b/>x<c/></r>")
		light(t, x, true)
		for _, y := range within(x) {
			light(t, y, true)
		}
		light(t, element("", "r", x, text("y")), false)
		x.Text = ""
		prints(t, x, "", "")
		light(t, x, false)
	}
	for _, s := range []string{"x", " ", "\x00", "\xff", "<"} {
		x := with(element("u", "a", element("u", "k")), "", "x", "1")
		x.Text = s
		prints(t, x, "", `<a xmlns="u" x="1"><k/></a>`)
		prints(t, element("u", "r", text("y"), x, text("z")), "u", `<r>y<a x="1"><k/></a>z</r>`)
		light(t, x, true)
		for _, y := range within(x) {
			light(t, y, true)
		}
		x.Kids = nil
		prints(t, x, "", `<a xmlns="u" x="1"/>`)
		light(t, x, true)
	}
}

// P11.1, P11.2: each rune, where it may stand, in a text, a value, a space and a name.
func TestEachRune(t *testing.T) {
	for r := rune(0); r <= utf8.MaxRune+1; r++ {
		if r == 0x3000 {
			r = 0xd7f0
		}
		if r == 0xe010 {
			r = 0xfff0
		}
		if r == 0x10010 {
			r = 0xeffe0
		}
		if r == 0xf0010 {
			r = 0x10fff0
		}
		s := string(r)
		if r != utf8.RuneError && s == "\ufffd" {
			s = "\xed\xa0\x80" // what would be a half of two
		}
		may := char.All(s, char.Char) && utf8.ValidString(s)
		light(t, text(s), may)
		x := with(element(s, "a", text(s)), s, "x", s)
		light(t, x, may)
		if may {
			readBack(t, x)
			readBack(t, element("", "a", text("]"+s+">"), element(s+s, "b"), text(s+s)))
		}
		may = may && name.Plain(s)
		x = with(element("", s, element("u", s), element(xml, "b"+s)), "", s, "", "u", s, "", xml, s, "")
		light(t, x, may)
		if may {
			readBack(t, x)
		}
	}
}

var (
	asText  = strings.NewReplacer("&", "&amp;", "<", "&lt;", ">", "&gt;", "\r", "&#xD;")
	asValue = strings.NewReplacer("&", "&amp;", "<", "&lt;", ">", "&gt;", "\r", "&#xD;", `"`, "&quot;", "\t", "&#x9;", "\n", "&#xA;")
)

// textByWords is a tree's text, by the chapter's words tried out anew.
func textByWords(t api.Tree, space string) string {
	if t.IsText {
		return asText.Replace(t.Text)
	}
	quote := func(s string) string { return `"` + asValue.Replace(s) + `"` }
	own, bindings, inner := t.Name.Local, "", space
	if t.Name.Space == xml {
		own = "xml:" + own
	} else if inner = t.Name.Space; inner != space {
		bindings = " xmlns=" + quote(inner)
	}
	var spaces []string
	given := ""
	for _, a := range t.Attrs {
		prefix := ""
		switch s := a.Name.Space; {
		case s == xml:
			prefix = "xml:"
		case s != "":
			if !slices.Contains(spaces, s) {
				bindings += fmt.Sprintf(" xmlns:n%d=%s", len(spaces), quote(s))
				spaces = append(spaces, s)
			}
			prefix = fmt.Sprintf("n%d:", slices.Index(spaces, s))
		}
		given += " " + prefix + a.Name.Local + "=" + quote(a.Value)
	}
	if len(t.Kids) == 0 {
		return "<" + own + bindings + given + "/>"
	}
	inside := ""
	for _, child := range t.Kids {
		inside += textByWords(child, inner)
	}
	return "<" + own + bindings + given + ">" + inside + "</" + own + ">"
}

// lightByWords tells whether a tree is light, by the chapter's words tried out anew on the row of its events.
func lightByWords(t api.Tree) bool {
	l := tree.Word(t)
	for at, e := range l {
		if !word.Right(e) || len(e.Attrs) > 15 || at > 0 && e.Kind == api.Text && l[at-1].Kind == api.Text {
			return false
		}
		if slices.ContainsFunc(e.Attrs, func(a api.Attr) bool { return a.Name.Space == "" && a.Name.Local == "xmlns" }) {
			return false
		}
	}
	return true
}

// byWords holds all answers of a tree against the words, and tells whether it's light.
func byWords(t *testing.T, x api.Tree) bool {
	t.Helper()
	for _, space := range []string{"", "u", xml, "&"} {
		prints(t, x, space, textByWords(x, space))
	}
	isLight := lightByWords(x)
	light(t, x, isLight)
	if isLight && !x.IsText && tree.Right(x) {
		readBack(t, x)
	}
	return isLight
}

// P11.1, P11.2: all elements with up to four attributes of some, against the words.
func TestFewAttributes(t *testing.T) {
	some := attrs("", "x", "1", "", "xmlns", "u", "u", "x", "<", "u", "y", "\n", "v", "x", "&\"", xml, "x", "'", "", "", "")
	var row func(l []api.Attr)
	row = func(l []api.Attr) {
		for _, space := range []string{"", "u", xml} {
			x := element(space, "a")
			x.Attrs = l
			byWords(t, x)
		}
		if len(l) == 4 {
			return
		}
		for _, a := range some {
			row(append(slices.Clip(l), a))
		}
	}
	row(nil)
}

// P11.1, P11.2: all trees of up to five nodes of some kinds, against the words.
func TestSmallTrees(t *testing.T) {
	leaves := []api.Tree{element("", "a"), element("u", "a"), element(xml, "a"), text("x"), text("")}
	// rows answers all rows of trees that have n nodes.
	var rows func(n int) [][]api.Tree
	rows = func(n int) [][]api.Tree {
		if n == 0 {
			return [][]api.Tree{nil}
		}
		var all [][]api.Tree
		for inner := range n {
			for _, kids := range rows(inner) {
				for _, rest := range rows(n - 1 - inner) {
					for _, leaf := range leaves {
						if leaf.IsText && inner > 0 {
							continue
						}
						leaf.Kids = kids
						all = append(all, append([]api.Tree{leaf}, rest...))
					}
				}
			}
		}
		return all
	}
	lightOnes := 0
	for n := range 5 {
		for _, kids := range rows(n) {
			for _, root := range leaves {
				root.Kids = kids
				if byWords(t, root) {
					lightOnes++
				}
			}
		}
	}
	if lightOnes < 1000 {
		t.Error("too few light ones:", lightOnes)
	}
}

// someTree makes a tree of some chance, at most so deep; now and then one that isn't light.
func someTree(chance *rand.Rand, levels int, wild bool) api.Tree {
	pick := func(l ...string) string { return l[chance.Intn(len(l))] }
	t := element(pick("", "", "u", "v", xml, "&\"\n"), pick("a", "b", "c-1", "\u00e9", "xmlns", "n0"))
	for i := range chance.Intn(5) {
		local := pick("x", "y", "z", "n0") + strconv.Itoa(i)
		t.Attrs = append(t.Attrs, attrs(pick("", "", "u", "v", "w", xml, "\r<'"), local, pick("", "1", "<&>\"'", "\r\n\t ", "\u00e9"))...)
	}
	if chance.Intn(8) == 0 {
		t.Attrs = spread(15)
	}
	if wild && chance.Intn(20) == 0 {
		t.Attrs = append(t.Attrs, attrs(pick("", "u", "\x00"), pick("xmlns", "x", "x", "1"), pick("", "\xff"))...)
	}
	if levels == 1 {
		return t
	}
	for range 1 + chance.Intn(4) {
		if n := len(t.Kids); chance.Intn(3) == 0 && (wild || n == 0 || !t.Kids[n-1].IsText) {
			t.Kids = append(t.Kids, text(pick("x", " ", "<&>", "\r\n", "]]>", "\u00e9")))
			continue
		}
		t.Kids = append(t.Kids, someTree(chance, max(1, levels-1-chance.Intn(3)), wild))
	}
	return t
}

// P11.1, P11.2: trees of some chance, against the words.
func TestSomeTrees(t *testing.T) {
	chance := rand.New(rand.NewSource(11))
	lightOnes, others, large := 0, 0, 0
	for i := range 2000 {
		x := someTree(chance, 1+chance.Intn(8), i%3 == 0)
		if !byWords(t, x) {
			others++
			continue
		}
		lightOnes++
		if tree.Count(x) > 30 {
			large++
		}
	}
	if lightOnes < 1000 || others < 200 || large < 100 {
		t.Error("too few of a kind:", lightOnes, others, large)
	}
}

// P11.2: what comes in, printed and read, is as it came in.
func TestDocumentsThatComeIn(t *testing.T) {
	for _, x := range [][2]string{
		{"<a/>", "<a/>"},
		{"<?xml version='1.0'?> <a xmlns='u' x='&lt;'> <b/><![CDATA[<]]>y</a> <!--c-->", `<a xmlns="u" x="&lt;"> <b/>&lt;y</a>`},
		{"<p:a xmlns:p='u' p:x='1' x='1' xml:lang=''><p:b xmlns:p=\"v\"/></p:a>", `<a xmlns="u" xmlns:n0="u" n0:x="1" x="1" xml:lang=""><b xmlns="v"/></a>`},
		{"<a xmlns='u'><b xmlns=''><c/></b><d/></a>", `<a xmlns="u"><b xmlns=""><c/></b><d/></a>`},
		{"<a x='\n&#10;'>&#13;\r\n</a>", "<a x=\" &#xA;\">&#xD;\n</a>"},
		{"<a></a>", "<a/>"},
		{"<a><![CDATA[]]></a>", "<a/>"},
	} {
		got, ok := read(x[0])
		if !ok {
			t.Fatal(x[0])
		}
		prints(t, got, "", x[1])
		byWords(t, got)
	}
}

// lists is a tree's lists of attributes and children, one behind the other.
func lists(t api.Tree) ([][]api.Attr, [][]api.Tree) {
	ofAttrs, ofKids := [][]api.Attr{t.Attrs}, [][]api.Tree{t.Kids}
	for _, child := range t.Kids {
		a, k := lists(child)
		ofAttrs, ofKids = append(ofAttrs, a...), append(ofKids, k...)
	}
	return ofAttrs, ofKids
}

// roomy is a tree whose lists lie in greater ones, and those.
func roomy(t api.Tree) (api.Tree, [][]api.Attr, [][]api.Tree) {
	attrsRoom, kidsRoom := append(slices.Clone(t.Attrs), attrs("7", "7", "7", "8", "8", "8")...), append(slices.Clone(t.Kids), text("7"), text("8"))
	moreAttrs, moreKids := [][]api.Attr{attrsRoom}, [][]api.Tree{kidsRoom}
	for i := range t.Kids {
		child, a, k := roomy(t.Kids[i])
		kidsRoom[i] = child
		moreAttrs, moreKids = append(moreAttrs, a...), append(moreKids, k...)
	}
	t.Attrs, t.Kids = attrsRoom[:len(t.Attrs)], kidsRoom[:len(t.Kids)]
	return t, moreAttrs, moreKids
}

// P11.3: what is handed in stays, right or wrong, with all of its lists and what lies behind them in memory; each call answers the same again.
func TestHandedInStays(t *testing.T) {
	odd := text("x")
	odd.Name, odd.Attrs, odd.Kids = api.Name{Local: "a"}, many(2), []api.Tree{element("", "b"), {}}
	worse := element("u", "a", odd, text("y"), api.Tree{}, deep(70))
	worse.Text, worse.Attrs = "q", append(many(2), spread(33)...)
	all := []api.Tree{{}, text(""), text("<"), odd, worse, element("", "a", worse, odd), deep(64), deep(65)}
	chance := rand.New(rand.NewSource(113))
	for i := range 300 {
		all = append(all, someTree(chance, 6, i%2 == 0))
	}
	for _, plain := range all {
		x, attrsRoom, kidsRoom := roomy(plain)
		before, attrsBefore, kidsBefore := copied(x), slices.Clone(attrsRoom), slices.Clone(kidsRoom)
		for i := range attrsRoom {
			attrsBefore[i], kidsBefore[i] = slices.Clone(attrsRoom[i]), slices.Clone(kidsRoom[i])
		}
		ofAttrs, ofKids := lists(x)
		calls := func() []any { return []any{Print(x), Within(x, "u"), Within(x, xml), Light(x)} }
		once, again := calls(), calls()
		if !reflect.DeepEqual(x, before) || !reflect.DeepEqual(attrsRoom, attrsBefore) || !reflect.DeepEqual(kidsRoom, kidsBefore) {
			t.Errorf("%s was changed", show(before))
		}
		stillAttrs, stillKids := lists(x)
		for i := range ofAttrs {
			if unsafe.SliceData(ofAttrs[i]) != unsafe.SliceData(stillAttrs[i]) || unsafe.SliceData(ofKids[i]) != unsafe.SliceData(stillKids[i]) {
				t.Errorf("a list of %s is another one", show(before))
			}
		}
		if !reflect.DeepEqual(once, again) {
			t.Errorf("%s: %s, then %s", show(x), show(once), show(again))
		}
	}
}

// shares tells whether two texts have bytes of memory in common.
func shares(a, b string) bool {
	if a == "" || b == "" {
		return false
	}
	x, y := uintptr(unsafe.Pointer(unsafe.StringData(a))), uintptr(unsafe.Pointer(unsafe.StringData(b)))
	return x < y+uintptr(len(b)) && y < x+uintptr(len(a))
}

// Rule 5: what is answered is new memory, also of a text that needs no escape; what was answered stays when more is asked.
func TestNewMemory(t *testing.T) {
	whole := strings.Clone("space local text")
	space, local, words := whole[:5], whole[6:11], whole[12:]
	x := with(element(space, local, text(words)), space, local, words)
	for _, y := range []api.Tree{text(words), x, element("", local), element("", "a", text(words))} {
		for _, within := range []string{"", space} {
			first, second := Within(y, within), Within(y, within)
			if shares(first, whole) || shares(first, second) {
				t.Errorf("%q isn't new", first)
			}
			kept := strings.Clone(first)
			Print(element("", "other", text("another text")))
			if first != kept {
				t.Errorf("%q became %q", kept, first)
			}
		}
	}
}

// P1: trees that are deep beyond all documents, wide ones, ones of many attributes, and long texts end without a panic.
func TestEnds(t *testing.T) {
	const levels = 1 << 16
	x := deep(levels)
	prints(t, x, "", strings.Repeat("<a>", levels-1)+"<a/>"+strings.Repeat("</a>", levels-1))
	light(t, x, true)
	for range 3 {
		light(t, element("", "a", x, text("x")), true)
		light(t, element("", "a", x, text("")), false)
	}
	bad := element("", "1")
	for range levels - 1 {
		bad = element("u", "a", bad)
	}
	light(t, bad, false)
	prints(t, bad, "u", strings.Repeat("<a>", levels-1)+`<1 xmlns=""/>`+strings.Repeat("</a>", levels-1))
	wide := element("", "a", slices.Repeat([]api.Tree{element("", "b"), text("x")}, 100000)...)
	prints(t, wide, "", "<a>"+strings.Repeat("<b/>x", 100000)+"</a>")
	light(t, wide, true)
	full := element("", "a")
	full.Attrs = spread(100000)
	if got := Print(full); len(got) < 1000000 || !strings.HasSuffix(got, ` n99999:x=""/>`) || Light(full) {
		t.Error("many attributes:", len(got))
	}
	full.Attrs = many(100000)
	if got := Print(full); len(got) < 900000 || !strings.HasSuffix(got, ` x99999=""/>`) || Light(full) {
		t.Error("many attributes:", len(got))
	}
	long := strings.Repeat("<&\n\u00e9", 200000)
	prints(t, with(element(long, "a", text(long)), long, "x", long), long, `<a xmlns:n0="`+ref.Quote(long)+`" n0:x="`+ref.Quote(long)+`">`+ref.Escape(long)+"</a>")
	readBack(t, with(element(long, "a", text(long)), long, "x", long))
	name := strings.Repeat("n", 1000000)
	prints(t, element("", name, text("x")), "", "<"+name+">x</"+name+">")
	readBack(t, element("", name, text("x")))
}
