package well

import (
	"math/rand"
	"reflect"
	"slices"
	"strconv"
	"strings"
	"testing"
	"unsafe"

	"oriel/api"
	"oriel/scan"
	"oriel/scope"
	"oriel/tag"
)

// start makes a start tag's token.
func start(s string) api.Token {
	return api.Token{Kind: api.Start, Text: s}
}

// empty makes the token of a start tag that ends with />.
func empty(s string) api.Token {
	return api.Token{Kind: api.Start, Text: s, Empty: true}
}

// end makes an end tag's token.
func end(s string) api.Token {
	return api.Token{Kind: api.End, Text: s}
}

// chars makes a text's token.
func chars(s string) api.Token {
	return api.Token{Kind: api.Chars, Text: s}
}

// blank makes the token of a text of blanks.
func blank(s string) api.Token {
	return api.Token{Kind: api.Chars, Text: s, Blank: true}
}

// The tokens that have no more to them than their kinds.
var (
	comment = api.Token{Kind: api.Comment, Text: "c"}
	instr   = api.Token{Kind: api.Instr, Text: "i j"}
	last    = api.Token{Kind: api.Last}
)

// others are tokens of kinds that there aren't.
var others = []api.Token{
	{},
	{Kind: 7},
	{Kind: -1},
	{Kind: 1 << 40},
	{Kind: 0, Text: "a", Empty: true, Blank: true},
	{Kind: 7, Text: "a"},
}

// each is a token of each kind, right and wrong.
var each = slices.Concat([]api.Token{
	start("a"), start("b"), start("p:a"), start("a x='1' x='2'"), start(""), empty("a"), empty("p:a"), empty("1"),
	end("a"), end("b"), end(""), chars(""), chars("x"), chars(" "), blank(" "), blank(""), comment, instr, last,
}, others)

// opens makes an event of a space and local name, and of attributes' spaces, local names and values in turn.
func opens(space, local string, l ...string) api.Event {
	e := api.Event{Kind: api.Open, Name: api.Name{Space: space, Local: local}}
	for i := 0; i < len(l); i += 3 {
		e.Attrs = append(e.Attrs, api.Attr{Name: api.Name{Space: l[i], Local: l[i+1]}, Value: l[i+2]})
	}
	return e
}

// text makes the event of a text.
func text(s string) api.Event {
	return api.Event{Kind: api.Text, Text: s}
}

// shut is the event of an element that closes.
var shut = api.Event{Kind: api.Close}

// events makes a list of events.
func events(l ...api.Event) []api.Event {
	return l
}

// same tells whether two lists of events are one; nil and empty lists are.
func same(a, b []api.Event) bool {
	return slices.EqualFunc(a, b, func(x, y api.Event) bool {
		return x.Kind == y.Kind && x.Name == y.Name && x.Text == y.Text && slices.Equal(x.Attrs, y.Attrs)
	})
}

// behind makes a reader that has taken tokens without an error.
func behind(t *testing.T, l ...api.Token) *Reader {
	t.Helper()
	r := New()
	for i, k := range l {
		if _, err := r.Take(k); err != api.OK {
			t.Fatalf("%.200v: %d at %d", l, err, i)
		}
	}
	return r
}

// takes holds what a token without an error does.
func takes(t *testing.T, r *Reader, k api.Token, depth int, want ...api.Event) {
	t.Helper()
	got, err := r.Take(k)
	if !same(got, want) || err != api.OK || r.Depth() != depth || r.Over() != (k.Kind == api.Last) {
		t.Errorf("Take of %.200v: %.300v, %d; %d open, over %t; not %.300v, 0; %d open", k, got, err, r.Depth(), r.Over(), want, depth)
	}
}

// fails holds that a token answers no events and an error, that nothing opens or closes then, and that each token behind it answers the same.
func fails(t *testing.T, r *Reader, k api.Token, want api.Errno) {
	t.Helper()
	depth := r.Depth()
	for i, x := range slices.Concat([]api.Token{k}, each, []api.Token{k}) {
		got, err := r.Take(x)
		if got != nil || err != want || r.Depth() != depth || r.Over() {
			t.Errorf("Take of %.200v, then of %d more, %.200v: %.300v, %d; %d open, over %t; not nil, %d; %d open", k, i, x, got, err, r.Depth(), r.Over(), want, depth)
		}
	}
}

// P8.1: of a reader that is new, nothing is open, nor over.
func TestNew(t *testing.T) {
	r := New()
	if r == nil || r.Depth() != 0 || r.Over() {
		t.Fatalf("New: %v", r)
	}
	takes(t, r, start("a"), 1, opens("", "a"))
	if New().Depth() != 0 {
		t.Error("two readers share what is open")
	}
}

// P8.1: the chapter's example, by tokens.
func TestExample(t *testing.T) {
	r := New()
	takes(t, r, start("a"), 1, opens("", "a"))
	takes(t, r, chars("x"), 1)
	takes(t, r, comment, 1)
	takes(t, r, chars("y"), 1)
	takes(t, r, end("a"), 0, text("xy"), shut)
	takes(t, r, last, 0)
}

// P8.1: each kind of token ahead of the root.
func TestAhead(t *testing.T) {
	for _, ahead := range [][]api.Token{nil, {comment}, {instr}, {blank(" ")}, {blank("\n"), comment, instr, blank("")}, others} {
		takes(t, behind(t, ahead...), start("a"), 1, opens("", "a"))
		takes(t, behind(t, ahead...), empty("a"), 0, opens("", "a"), shut)
		takes(t, behind(t, ahead...), comment, 0)
		takes(t, behind(t, ahead...), instr, 0)
		takes(t, behind(t, ahead...), blank(" \t\r\n"), 0)
		takes(t, behind(t, ahead...), blank(""), 0)
		for _, k := range others {
			takes(t, behind(t, ahead...), k, 0)
		}
		fails(t, behind(t, ahead...), chars("x"), api.ErrRoot)
		fails(t, behind(t, ahead...), chars(" "), api.ErrRoot)
		fails(t, behind(t, ahead...), chars(""), api.ErrRoot)
		fails(t, behind(t, ahead...), end("a"), api.ErrClose)
		fails(t, behind(t, ahead...), end(""), api.ErrClose)
		fails(t, behind(t, ahead...), last, api.ErrRoot)
	}
}

// P8.1: each kind of token with one element open, and with more.
func TestInside(t *testing.T) {
	for _, inside := range [][]api.Token{
		{start("a")},
		{start("b"), start("a")},
		{comment, start("a"), instr, blank(" "), start("c"), end("c"), start("b"), empty("a"), start("a")},
	} {
		depth := behind(t, inside...).Depth()
		takes(t, behind(t, inside...), start("a"), depth+1, opens("", "a"))
		takes(t, behind(t, inside...), empty("b"), depth, opens("", "b"), shut)
		takes(t, behind(t, inside...), comment, depth)
		takes(t, behind(t, inside...), instr, depth)
		takes(t, behind(t, inside...), chars("x"), depth)
		takes(t, behind(t, inside...), chars(""), depth)
		takes(t, behind(t, inside...), blank(" "), depth)
		for _, k := range others {
			takes(t, behind(t, inside...), k, depth)
		}
		takes(t, behind(t, inside...), end("a"), depth-1, shut)
		for _, wrong := range []string{"b", "c", "", "A", "aa", "a ", " a", "p:a", "a:a", "a:", ":a"} {
			fails(t, behind(t, inside...), end(wrong), api.ErrClose)
		}
		fails(t, behind(t, inside...), last, api.ErrCut)
	}
}

// P8.1: each kind of token behind the root.
func TestBehindTheRoot(t *testing.T) {
	for _, root := range [][]api.Token{
		{empty("a")},
		{start("a"), end("a")},
		{blank(" "), start("a"), chars("x"), start("b"), end("b"), chars("y"), end("a"), comment, blank(" ")},
	} {
		takes(t, behind(t, root...), comment, 0)
		takes(t, behind(t, root...), instr, 0)
		takes(t, behind(t, root...), blank(" "), 0)
		for _, k := range others {
			takes(t, behind(t, root...), k, 0)
		}
		takes(t, behind(t, root...), last, 0)
		for _, s := range []string{"a", "b", "", "1", "p:a", "a x='1' x='2'", "a x='&y;'", "a x"} {
			fails(t, behind(t, root...), start(s), api.ErrRoot)
			fails(t, behind(t, root...), empty(s), api.ErrRoot)
		}
		fails(t, behind(t, root...), chars("x"), api.ErrRoot)
		fails(t, behind(t, root...), chars(" "), api.ErrRoot)
		fails(t, behind(t, root...), chars(""), api.ErrRoot)
		fails(t, behind(t, root...), end("a"), api.ErrClose)
		fails(t, behind(t, root...), end("b"), api.ErrClose)
	}
}

// P8.1: behind Last each token is ErrState, and all stays over.
func TestBehindLast(t *testing.T) {
	for _, k := range each {
		r := behind(t, start("a"), empty("b"), end("a"), last)
		for _, x := range slices.Concat([]api.Token{k}, each) {
			if got, err := r.Take(x); got != nil || err != api.ErrState || r.Depth() != 0 || !r.Over() {
				t.Errorf("Take of %v, behind Last: %v, %d; %d open, over %t", x, got, err, r.Depth(), r.Over())
			}
		}
	}
}

// manyAttrs is a tag's text with so many attributes.
func manyAttrs(n int) string {
	s := "a"
	for i := range n {
		s += " x" + strconv.Itoa(i) + "='1'"
	}
	return s
}

// wrongTags is tags' texts with chapter 6's errors, and chapter 7's.
var wrongTags = []struct {
	s   string
	err api.Errno
}{
	{"", api.ErrName},
	{" a", api.ErrName},
	{"1", api.ErrName},
	{"a:", api.ErrName},
	{"a 1='1'", api.ErrName},
	{"a/", api.ErrMark},
	{"a x", api.ErrMark},
	{"a x=1", api.ErrMark},
	{"a x='1", api.ErrMark},
	{"a x='1'y='2'", api.ErrMark},
	{"a x='&y;'", api.ErrRef},
	{"a x='&'", api.ErrRef},
	{"a x='\x01'", api.ErrChar},
	{"a x='\xff'", api.ErrUtf},
	{"a x='1' x='1'", api.ErrTwice},
	{manyAttrs(api.MaxAttrs + 1), api.ErrLarge},
	{"q:a", api.ErrScope},
	{"a q:x='1'", api.ErrScope},
	{"xmlns:a", api.ErrScope},
	{"a xmlns:xmlns='u'", api.ErrScope},
	{"a xmlns:xml='u'", api.ErrScope},
	{"a xmlns:q=''", api.ErrScope},
	{"a xmlns='" + api.XmlSpace + "'", api.ErrScope},
	{"a xmlns:q='" + api.XmlnsSpace + "'", api.ErrScope},
	{"a xmlns:q='u' xmlns:r='u' q:x='1' r:x='2'", api.ErrTwice},
}

// P8.1: start tags with each of the errors that a tag has, as the root and within others.
func TestWrongTags(t *testing.T) {
	for _, x := range wrongTags {
		for _, ahead := range [][]api.Token{nil, {comment}, {start("a")}, {start("a"), chars("x")}, {start("a"), start("b"), blank(" ")}} {
			fails(t, behind(t, ahead...), start(x.s), x.err)
			fails(t, behind(t, ahead...), empty(x.s), x.err)
		}
	}
	takes(t, behind(t), empty(manyAttrs(api.MaxAttrs)), 0, events(opens("", "a", slices.Concat(pairs(api.MaxAttrs)...)...), shut)...)
}

// pairs is the attributes of manyAttrs: space, local name and value.
func pairs(n int) [][]string {
	var l [][]string
	for i := range n {
		l = append(l, []string{"", "x" + strconv.Itoa(i), "1"})
	}
	return l
}

// deep is so many start tags.
func deep(n int) []api.Token {
	return slices.Repeat([]api.Token{start("a")}, n)
}

// P8.1: just MaxDepth elements open, one less, and what stands within them.
func TestMaxDepth(t *testing.T) {
	if api.MaxDepth != 64 {
		t.Fatal("the limit is another one")
	}
	takes(t, behind(t, deep(63)...), start("a"), 64, opens("", "a"))
	takes(t, behind(t, deep(63)...), empty("a"), 63, opens("", "a"), shut)
	fails(t, behind(t, deep(64)...), start("a"), api.ErrLarge)
	fails(t, behind(t, deep(64)...), empty("a"), api.ErrLarge)
	fails(t, behind(t, append(deep(64), chars("x"))...), start("a"), api.ErrLarge)
	r := behind(t, deep(64)...)
	takes(t, r, chars("x"), 64)
	takes(t, r, comment, 64)
	takes(t, r, end("a"), 63, text("x"), shut)
	takes(t, r, start("b"), 64, opens("", "b"))
	takes(t, r, end("b"), 63, shut)
	takes(t, r, empty("b"), 63, opens("", "b"), shut)
	for i := range 63 {
		takes(t, r, end("a"), 62-i, shut)
	}
	takes(t, r, last, 0)
	fails(t, behind(t, deep(64)...), last, api.ErrCut)
	fails(t, behind(t, deep(64)...), end("b"), api.ErrClose)
	// Not how many there were counts, but how many are open.
	many := behind(t, start("a"))
	for range 200 {
		takes(t, many, empty("b"), 1, opens("", "b"), shut)
		takes(t, many, start("b"), 2, opens("", "b"))
		takes(t, many, end("b"), 1, shut)
	}
}

// P8.1: two errors in one tag: ErrRoot, chapter 6's, chapter 7's, ErrLarge.
func TestOrder(t *testing.T) {
	for _, x := range wrongTags {
		fails(t, behind(t, deep(64)...), start(x.s), x.err)
		fails(t, behind(t, deep(64)...), empty(x.s), x.err)
		fails(t, behind(t, empty("a")), start(x.s), api.ErrRoot)
		fails(t, behind(t, empty("a")), empty(x.s), api.ErrRoot)
	}
	for _, x := range []struct {
		s   string
		err api.Errno
	}{
		{"q:a x", api.ErrMark},
		{"q:a x='&y;'", api.ErrRef},
		{"q:a x='1' x='2'", api.ErrTwice},
		{"q:a x='1' 1", api.ErrName},
		{"a xmlns:q='' x='1' x='2'", api.ErrTwice},
		{"q:" + manyAttrs(api.MaxAttrs+1), api.ErrLarge},
		{"a xmlns:q='' y='1' 1='1'", api.ErrName},
	} {
		fails(t, behind(t), start(x.s), x.err)
		fails(t, behind(t, deep(64)...), start(x.s), x.err)
	}
}

// P8.1: an end tag's name is that of the innermost element as it stands, whatever the spaces.
func TestEnds(t *testing.T) {
	two := start("p:a xmlns:p='u' xmlns:q='u'")
	takes(t, behind(t, two), end("p:a"), 0, shut)
	for _, wrong := range []string{"q:a", "a", "p:b", "p", "u:a", "p:a ", "P:a", "p:a xmlns:p='u'", "p::a"} {
		fails(t, behind(t, two), end(wrong), api.ErrClose)
	}
	both := start("a xmlns='u' xmlns:p='u'")
	takes(t, behind(t, both), end("a"), 0, shut)
	fails(t, behind(t, both), end("p:a"), api.ErrClose)
	fails(t, behind(t, both, start("p:b")), end("b"), api.ErrClose)
	fails(t, behind(t, both, start("b")), end("p:b"), api.ErrClose)
	// Another element that is open is not the innermost one.
	fails(t, behind(t, start("a"), start("b")), end("a"), api.ErrClose)
	fails(t, behind(t, start("a"), start("b"), end("b")), end("b"), api.ErrClose)
	fails(t, behind(t, start("a"), empty("b")), end("b"), api.ErrClose)
	takes(t, behind(t, start("a"), start("b"), end("b")), end("a"), 0, shut)
	takes(t, behind(t, start("a"), empty("b")), end("a"), 0, shut)
	takes(t, behind(t, start("\u00e9")), end("\u00e9"), 0, shut)
	fails(t, behind(t, start("\u00e9")), end("e\u0301"), api.ErrClose)
	// A tag's blanks are none of the name.
	takes(t, behind(t, start("a \n")), end("a"), 0, shut)
	takes(t, behind(t, start("a x='1'")), end("a"), 0, shut)
}

// P8.1: a text waits for what opens or closes, and all its pieces are one.
func TestTexts(t *testing.T) {
	for _, x := range []struct {
		pieces []api.Token
		want   string
	}{
		{nil, ""},
		{[]api.Token{chars("")}, ""},
		{[]api.Token{blank("")}, ""},
		{[]api.Token{chars(""), comment, chars(""), instr}, ""},
		{[]api.Token{comment}, ""},
		{others, ""},
		{[]api.Token{chars("x")}, "x"},
		{[]api.Token{blank(" ")}, " "},
		{[]api.Token{chars(" ")}, " "},
		{[]api.Token{chars("x"), chars("y")}, "xy"},
		{[]api.Token{chars("x"), comment, chars("y")}, "xy"},
		{[]api.Token{chars("x"), instr, chars("y")}, "xy"},
		{[]api.Token{chars("x"), comment, instr, comment, chars("y"), instr}, "xy"},
		{[]api.Token{comment, chars(""), chars("x"), chars(""), chars("y")}, "xy"},
		{[]api.Token{blank("\n"), chars("x"), blank(" "), comment, blank("\t")}, "\nx \t"},
		{[]api.Token{chars("a"), {Kind: 7, Text: "b"}, chars("c")}, "ac"},
		{[]api.Token{chars("&<>]]>"), chars("\u00e9\x00\xff")}, "&<>]]>\u00e9\x00\xff"},
		{[]api.Token{chars("x"), chars("x"), chars("x")}, "xxx"},
	} {
		told := events(text(x.want))
		if x.want == "" {
			told = nil
		}
		for _, k := range []struct {
			next  api.Token
			depth int
			want  []api.Event
		}{
			{start("b"), 2, events(opens("", "b"))},
			{empty("b y='1'"), 1, events(opens("", "b", "", "y", "1"), shut)},
			{end("a"), 0, events(shut)},
		} {
			ahead := append([]api.Token{start("a")}, x.pieces...)
			takes(t, behind(t, ahead...), k.next, k.depth, slices.Concat(told, k.want)...)
			// Behind an element that closed, likewise.
			ahead = slices.Concat([]api.Token{start("a"), chars("0"), empty("c")}, x.pieces)
			takes(t, behind(t, ahead...), k.next, k.depth, slices.Concat(told, k.want)...)
			ahead = slices.Concat([]api.Token{start("a"), chars("0"), start("c"), chars("1"), end("c")}, x.pieces)
			takes(t, behind(t, ahead...), k.next, k.depth, slices.Concat(told, k.want)...)
		}
	}
}

// P8.1: what was told waits no more.
func TestToldOnce(t *testing.T) {
	r := behind(t, start("a"), chars("x"))
	takes(t, r, start("b"), 2, text("x"), opens("", "b"))
	takes(t, r, end("b"), 1, shut)
	takes(t, r, chars("y"), 1)
	takes(t, r, empty("b"), 1, text("y"), opens("", "b"), shut)
	takes(t, r, empty("b"), 1, opens("", "b"), shut)
	takes(t, r, start("b"), 2, opens("", "b"))
	takes(t, r, chars("z"), 2)
	takes(t, r, end("b"), 1, text("z"), shut)
	takes(t, r, end("a"), 0, shut)
	takes(t, r, blank(" "), 0)
	takes(t, r, last, 0)
}

// P8.1: blanks outside of the root are no text, whatever stands in the token.
func TestBlanksOutside(t *testing.T) {
	r := New()
	takes(t, r, blank(" "), 0)
	takes(t, r, blank("x"), 0)
	takes(t, r, start("a"), 1, opens("", "a"))
	takes(t, r, end("a"), 0, shut)
	takes(t, r, blank("x"), 0)
	takes(t, r, last, 0)
}

// P8.1: a binding holds within its element, and not behind its end.
func TestBindings(t *testing.T) {
	r := New()
	takes(t, r, start("a xmlns='u' xmlns:p='v'"), 1, opens("u", "a"))
	takes(t, r, empty("p:b p:x='1' x='2'"), 1, opens("v", "b", "v", "x", "1", "", "x", "2"), shut)
	takes(t, r, start("p:c xmlns:p='w' xmlns='' xmlns:q='z'"), 2, opens("w", "c"))
	takes(t, r, empty("d p:x='1' q:x='2'"), 2, opens("", "d", "w", "x", "1", "z", "x", "2"), shut)
	takes(t, r, empty("e xmlns='y'"), 2, opens("y", "e"), shut)
	takes(t, r, empty("e"), 2, opens("", "e"), shut)
	takes(t, r, end("p:c"), 1, shut)
	takes(t, r, empty("p:c"), 1, opens("v", "c"), shut)
	takes(t, r, empty("q:c xmlns:q='y' xmlns:p='y'"), 1, opens("y", "c"), shut)
	takes(t, r, empty("p:c"), 1, opens("v", "c"), shut)
	takes(t, r, empty("xml:c xml:x='1'"), 1, opens(api.XmlSpace, "c", api.XmlSpace, "x", "1"), shut)
	takes(t, r, start("d"), 2, opens("u", "d"))
	fails(t, r, empty("q:c"), api.ErrScope)
	fails(t, behind(t, start("a"), start("b xmlns:p='u'"), end("b")), start("p:c"), api.ErrScope)
	fails(t, behind(t, start("a"), empty("b xmlns:p='u'")), start("p:c"), api.ErrScope)
	takes(t, behind(t, start("a"), start("b xmlns:p='u'")), start("p:c"), 3, opens("u", "c"))
}

// P8.2: documents without an error.
func TestEvents(t *testing.T) {
	for _, x := range []struct {
		s    string
		want []api.Event
	}{
		{"<a>x<!--c-->y</a>", events(opens("", "a"), text("xy"), shut)},
		{"<a/>", events(opens("", "a"), shut)},
		{"<a></a>", events(opens("", "a"), shut)},
		{"<a ></a >", events(opens("", "a"), shut)},
		{"<a><![CDATA[]]></a>", events(opens("", "a"), shut)},
		{" <a/> ", events(opens("", "a"), shut)},
		{"<a> </a>", events(opens("", "a"), text(" "), shut)},
		{"<a>&#32;</a>", events(opens("", "a"), text(" "), shut)},
		{"<a>\r\n<![CDATA[\r]]>\r</a>", events(opens("", "a"), text("\n\n\n"), shut)},
		{"<a>x<b/>y</a>", events(opens("", "a"), text("x"), opens("", "b"), shut, text("y"), shut)},
		{"<a>x<b>y</b>z</a>", events(opens("", "a"), text("x"), opens("", "b"), text("y"), shut, text("z"), shut)},
		{"<a><b/><b/></a>", events(opens("", "a"), opens("", "b"), shut, opens("", "b"), shut, shut)},
		{"<a><a><a/></a></a>", events(opens("", "a"), opens("", "a"), opens("", "a"), shut, shut, shut)},
		{"<a x='>' y=\"'\"/>", events(opens("", "a", "", "x", ">", "", "y", "'"), shut)},
		{"<p:a xmlns:p='u' p:b='1'/>", events(opens("u", "a", "u", "b", "1"), shut)},
		{"<a>1&amp;<![CDATA[<&]]>2<?i?>3<!--c-->&#x34;</a>", events(opens("", "a"), text("1&<&234"), shut)},
		{"<\u00e9>\u00e9</\u00e9>", events(opens("", "\u00e9"), text("\u00e9"), shut)},
		{
			"<?xml version='1.0'?>\n<!--c-->\n<a xmlns='u'\n x='&lt;'>\n <p:b xmlns:p='v' p:y=''>t<![CDATA[<]]>&gt;</p:b ><?i j?><b/>\n</a>\n<?i?><!--d-->\n",
			events(opens("u", "a", "", "x", "<"), text("\n "), opens("v", "b", "v", "y", ""), text("t<>"), shut, opens("u", "b"), shut, text("\n"), shut),
		},
	} {
		got, at, err := Events(x.s)
		if !same(got, x.want) || at != len(x.s) || err != api.OK {
			t.Errorf("Events of %q: %v, %d, %d; not %v, %d, 0", x.s, got, at, err, x.want, len(x.s))
		}
	}
}

// nested is so many elements one within the other.
func nested(n int) string {
	return strings.Repeat("<a>", n) + strings.Repeat("</a>", n)
}

// P8.2: each error: the events ahead of it, and where its token stands.
func TestEventsUpTo(t *testing.T) {
	for _, x := range []struct {
		s    string
		want []api.Event
		at   int
		err  api.Errno
	}{
		{"", nil, 0, api.ErrRoot},
		{" \n", nil, 2, api.ErrRoot},
		{"<!--c-->", nil, 8, api.ErrRoot},
		{"<?i?> ", nil, 6, api.ErrRoot},
		{"x", nil, 0, api.ErrRoot},
		{" x<a/>", nil, 0, api.ErrRoot},
		{"&#32;<a/>", nil, 0, api.ErrRoot},
		{" <![CDATA[]]><a/>", nil, 1, api.ErrRoot},
		{"<a/>x", events(opens("", "a"), shut), 4, api.ErrRoot},
		{"<a/> <b/>", events(opens("", "a"), shut), 5, api.ErrRoot},
		{"<a></a><q:a", events(opens("", "a"), shut), 7, api.ErrCut},
		{"<a></a><q:a>", events(opens("", "a"), shut), 7, api.ErrRoot},
		{"<a/><![CDATA[ ]]>", events(opens("", "a"), shut), 4, api.ErrRoot},
		{"</a>", nil, 0, api.ErrClose},
		{"<a></b>", events(opens("", "a")), 3, api.ErrClose},
		{"<a>x</b>", events(opens("", "a")), 4, api.ErrClose},
		{"<a>x<b/>y</b></a>", events(opens("", "a"), text("x"), opens("", "b"), shut), 9, api.ErrClose},
		{"<a/></a>", events(opens("", "a"), shut), 4, api.ErrClose},
		{"<a><b></a></b>", events(opens("", "a"), opens("", "b")), 6, api.ErrClose},
		{"<a>", events(opens("", "a")), 3, api.ErrCut},
		{"<a>x", events(opens("", "a")), 4, api.ErrCut},
		{"<a><b/>", events(opens("", "a"), opens("", "b"), shut), 7, api.ErrCut},
		{"<a><b></b>", events(opens("", "a"), opens("", "b"), shut), 10, api.ErrCut},
		{"<a>x<b", events(opens("", "a")), 4, api.ErrCut},
		{"<a><!--", events(opens("", "a")), 3, api.ErrCut},
		{"<a/><!", events(opens("", "a"), shut), 4, api.ErrCut},
		{"<a>x<b x/>", events(opens("", "a")), 4, api.ErrMark},
		{"<a>x]]></a>", events(opens("", "a")), 3, api.ErrMark},
		{"<a><b </a>", events(opens("", "a")), 3, api.ErrMark},
		{"<a/><!x>", events(opens("", "a"), shut), 4, api.ErrMark},
		{"<a>x<1/></a>", events(opens("", "a")), 4, api.ErrName},
		{"<a></1>", events(opens("", "a")), 3, api.ErrName},
		{"< a/>", nil, 0, api.ErrName},
		{"<a>&x;</a>", events(opens("", "a")), 3, api.ErrRef},
		{"<a><b x='&y;'/></a>", events(opens("", "a")), 3, api.ErrRef},
		{"<a/>&x;", events(opens("", "a"), shut), 4, api.ErrRef},
		{"<a>\x01</a>", events(opens("", "a")), 3, api.ErrChar},
		{"<a>x\xff</a>", events(opens("", "a")), 3, api.ErrUtf},
		{"<a><b y='1' y='1'/></a>", events(opens("", "a")), 3, api.ErrTwice},
		{"<a xmlns:p='u' xmlns:q='u'><b p:x='' q:x=''/></a>", events(opens("", "a")), 27, api.ErrTwice},
		{"<a>x<p:b/></a>", events(opens("", "a")), 4, api.ErrScope},
		{"<a><b xmlns:p='u'/><p:b/></a>", events(opens("", "a"), opens("", "b"), shut), 19, api.ErrScope},
		{"<!DOCTYPE a><a/>", nil, 0, api.ErrNot},
		{" <?xml version='1.0'?><a/>", nil, 1, api.ErrNot},
		{nested(65), slices.Repeat(events(opens("", "a")), 64), 192, api.ErrLarge},
		{strings.Repeat("<a>", 64) + "<a/>", slices.Repeat(events(opens("", "a")), 64), 192, api.ErrLarge},
		{"<a><" + manyAttrs(33) + "/></a>", events(opens("", "a")), 3, api.ErrLarge},
		// The first error counts.
		{"<a></b></c>&x;", events(opens("", "a")), 3, api.ErrClose},
		{"<a/>x<\xff", events(opens("", "a"), shut), 4, api.ErrRoot},
	} {
		got, at, err := Events(x.s)
		if !same(got, x.want) || at != x.at || err != x.err {
			t.Errorf("Events of %.300q: %.300v, %d, %d; not %.300v, %d, %d", x.s, got, at, err, x.want, x.at, x.err)
		}
	}
	if got, at, err := Events(nested(64)); len(got) != 128 || at != 64*7 || err != api.OK {
		t.Errorf("Events of 64 elements one within the other: %d of them, %d, %d", len(got), at, err)
	}
}

// words is what the last of some tokens does, by the chapter's words tried out anew: all that came ahead of it is gone through again each time, and nothing is kept.
func words(l []api.Token) ([]api.Event, int, bool, api.Errno) {
	var open []api.Tag
	var told []api.Event
	root, over, waits := false, false, ""
	for _, k := range l {
		told = nil
		if over {
			return nil, 0, true, api.ErrState
		}
		err := api.OK
		var event api.Event
		var said api.Tag
		switch k.Kind {
		case api.Start:
			if root && len(open) == 0 {
				err = api.ErrRoot
				break
			}
			if said, err = tag.Parse(k.Text); err != api.OK {
				break
			}
			bound := scope.New()
			for _, outer := range open {
				bound, _, _ = scope.Enter(bound, outer)
			}
			_, event, err = scope.Enter(bound, said)
			if err == api.OK && len(open) >= 64 {
				err = api.ErrLarge
			}
		case api.End:
			if len(open) == 0 || open[len(open)-1].Name != k.Text {
				err = api.ErrClose
			}
			event = shut
		case api.Chars:
			if len(open) == 0 && !k.Blank {
				err = api.ErrRoot
			} else if len(open) > 0 {
				waits += k.Text
			}
		case api.Last:
			if len(open) > 0 {
				err = api.ErrCut
			} else if !root {
				err = api.ErrRoot
			}
			over = err == api.OK
		}
		if err != api.OK {
			return nil, len(open), false, err
		}
		if k.Kind != api.Start && k.Kind != api.End {
			continue
		}
		if waits != "" {
			told = append(told, text(waits))
		}
		told, waits = append(told, event), ""
		switch {
		case k.Kind == api.End:
			open = open[:len(open)-1]
		case k.Empty:
			root, told = true, append(told, shut)
		default:
			root, open = true, append(open, said)
		}
	}
	return told, len(open), over, api.OK
}

// holds hands tokens to a reader, and holds what the last does against the words; it answers the error.
func holds(t *testing.T, r *Reader, l []api.Token) api.Errno {
	t.Helper()
	got, err := r.Take(l[len(l)-1])
	want, depth, over, wantErr := words(l)
	if !same(got, want) || err != wantErr || r.Depth() != depth || r.Over() != over {
		t.Fatalf("%v: %v, %d; %d open, over %t; not %v, %d; %d open, over %t", l, got, err, r.Depth(), r.Over(), want, wantErr, depth, over)
	}
	return err
}

// P8.1: all rows of up to five of some tokens, against the words.
func TestShortRows(t *testing.T) {
	some := []api.Token{
		start("a"), start("p:a"), start("a xmlns:p='u'"), empty("a"), empty("p:a x='1'"), start("a x"),
		end("a"), end("p:a"), chars("x"), blank(" "), chars(""), comment, last, {Kind: 9},
	}
	var row func(l []api.Token)
	row = func(l []api.Token) {
		if len(l) == 5 {
			return
		}
		for _, k := range some {
			longer := append(slices.Clip(l), k)
			// A reader can't go back: each row has one of its own.
			r := New()
			for _, ahead := range l {
				r.Take(ahead)
			}
			holds(t, r, longer)
			row(longer)
		}
	}
	row(nil)
}

// next makes a token of some chance that mostly fits behind the names that are open.
func next(chance *rand.Rand, open []string) api.Token {
	pick := func(l ...string) string { return l[chance.Intn(len(l))] }
	full := pick("a", "b", "p:a", "q:b", "\u00e9")
	switch n := chance.Intn(120); {
	case n == 0:
		return each[chance.Intn(len(each))]
	case n == 1:
		return start(wrongTags[chance.Intn(len(wrongTags))].s)
	case n == 2:
		return end(full)
	case n < 6:
		return []api.Token{comment, instr}[chance.Intn(2)]
	case len(open) == 0 || n < 55:
		bind := pick("", " xmlns:p='u'", " xmlns='v'", " xmlns:q='w' x='1'", " xmlns=''", " x='1' y='&amp;'")
		return api.Token{Kind: api.Start, Text: full + bind, Empty: len(open) > 0 && n < 15}
	case n < 75:
		return []api.Token{chars("x"), chars("yz"), chars(""), blank(" ")}[chance.Intn(4)]
	}
	return end(open[len(open)-1])
}

// P8.1: long rows of tokens, against the words.
func TestAgainstTheWords(t *testing.T) {
	chance := rand.New(rand.NewSource(8))
	seen := map[api.Errno]int{}
	for range 2000 {
		r := New()
		l := []api.Token{start("a xmlns:p='1' xmlns:q='2'")}
		holds(t, r, l)
		open := []string{"a"}
		for range chance.Intn(60) {
			k := next(chance, open)
			if chance.Intn(30) == 0 {
				k = blank("\n")
			}
			if len(open) == 0 && chance.Intn(2) == 0 {
				k = last
			}
			l = append(l, k)
			err := holds(t, r, l)
			seen[err]++
			switch {
			case err != api.OK:
			case k.Kind == api.Start && !k.Empty:
				full, _ := tag.Parse(k.Text)
				open = append(open, full.Name)
			case k.Kind == api.End:
				open = open[:len(open)-1]
			}
		}
	}
	for _, err := range []api.Errno{api.OK, api.ErrName, api.ErrRef, api.ErrMark, api.ErrCut, api.ErrTwice, api.ErrScope, api.ErrClose, api.ErrRoot, api.ErrLarge, api.ErrState} {
		if seen[err] < 20 {
			t.Errorf("too few tokens answer %d: %d", err, seen[err])
		}
	}
}

// document makes the text of a document of some chance, mostly right.
func document(chance *rand.Rand) string {
	var b strings.Builder
	pick := func(l ...string) string { return l[chance.Intn(len(l))] }
	b.WriteString(pick("", "", " ", "<?xml version='1.0'?>", "<!--c-->\n"))
	var element func(depth int)
	element = func(depth int) {
		full := pick("a", "b", "p:a", "\u00e9")
		b.WriteString("<" + full + pick("", " ", " x='1'", " xmlns='u'", " xmlns:p='v'", "\nxmlns:q='w' q:x=\"'>&lt;\""))
		if chance.Intn(4) == 0 {
			b.WriteString("/>")
			return
		}
		b.WriteString(">")
		for range chance.Intn(5) {
			switch {
			case depth < 4 && chance.Intn(2) == 0:
				element(depth + 1)
			case chance.Intn(60) == 0:
				b.WriteString(pick("</b>", "<c>", "<", "&", "\x00", "\xff", "<q:a/>", "]]>", "<a x='1' x='2'/>", "<!x>", "</1>"))
			default:
				b.WriteString(pick("x", "y z", " ", "\r\n", "&amp;", "&#65;", "<![CDATA[&]]>", "<![CDATA[]]>", "<!--c-->", "<?i j?>", "\u00e9"))
			}
		}
		b.WriteString("</" + full + pick("", "", " ") + ">")
	}
	b.WriteString("<r xmlns:p='p'>")
	element(0)
	element(0)
	b.WriteString("</r>" + pick("", "", "\n", "<!--c-->", "<?i?> "))
	if chance.Intn(15) == 0 {
		b.WriteString(pick("x", "<a/>", "</a>", "<![CDATA[ ]]>", "&#32;"))
	}
	return b.String()
}

// P8.2: the events of a text are those of its tokens, taken one by one; the place is the token's.
func TestEventsOfTokens(t *testing.T) {
	chance := rand.New(rand.NewSource(82))
	seen := map[api.Errno]int{}
	for range 4000 {
		s := document(chance)
		if chance.Intn(4) == 0 {
			s = s[:chance.Intn(len(s)+1)]
		}
		var want []api.Event
		tokens, place, wantErr := scan.All(s)
		var taken []api.Token
		at := 0
		for _, k := range tokens {
			taken = append(taken, k)
			told, _, _, err := words(taken)
			if err != api.OK {
				place, wantErr = at, err
				break
			}
			want = append(want, told...)
			_, at, _ = scan.Next(s, at)
		}
		got, where, err := Events(s)
		if !same(got, want) || where != place || err != wantErr {
			t.Fatalf("Events of %q: %v, %d, %d; not %v, %d, %d", s, got, where, err, want, place, wantErr)
		}
		if err == api.OK && where != len(s) {
			t.Fatalf("Events of %q: all went well, but up to %d", s, where)
		}
		seen[err]++
	}
	for _, err := range []api.Errno{api.OK, api.ErrUtf, api.ErrChar, api.ErrName, api.ErrRef, api.ErrMark, api.ErrCut, api.ErrTwice, api.ErrScope, api.ErrClose, api.ErrRoot} {
		if seen[err] < 10 {
			t.Errorf("too few texts answer %d: %d", err, seen[err])
		}
	}
}

// P8.2: what was told of a beginning of a text is told of the text.
func TestBeginnings(t *testing.T) {
	chance := rand.New(rand.NewSource(28))
	for range 100 {
		s := document(chance)
		whole, _, _ := Events(s)
		for i := range len(s) {
			if part, at, _ := Events(s[:i]); len(part) > len(whole) || !same(part, whole[:len(part)]) || at > i {
				t.Fatalf("Events of %q: %v, %d; but of %q: %v", s[:i], part, at, s, whole)
			}
		}
	}
}

// ordered holds P8.3 of events: elements one within the other, in one root; no text that is empty, outside of the root, or beside another; if whole, all are closed.
func ordered(l []api.Event, whole bool) bool {
	depth, roots := 0, 0
	for i, e := range l {
		bare := e.Name == (api.Name{}) && len(e.Attrs) == 0
		switch e.Kind {
		case api.Open:
			if depth == 0 {
				roots++
			}
			depth++
			if e.Text != "" || e.Name.Local == "" || roots > 1 || depth > api.MaxDepth {
				return false
			}
		case api.Text:
			if !bare || e.Text == "" || depth == 0 || l[i-1].Kind == api.Text {
				return false
			}
		case api.Close:
			depth--
			if !bare || e.Text != "" || depth < 0 {
				return false
			}
		default:
			return false
		}
	}
	return !whole || depth == 0 && roots == 1
}

// P8.3: elements open and close one within the other, in one root, and no two texts stand side by side.
func TestOrdered(t *testing.T) {
	chance := rand.New(rand.NewSource(83))
	for range 4000 {
		s := document(chance)
		// Some bytes of it go, so that other tokens stand side by side.
		for range chance.Intn(3) {
			from := chance.Intn(len(s))
			s = s[:from] + s[min(len(s), from+chance.Intn(5)):]
			if s == "" {
				s = "x"
			}
		}
		if l, _, err := Events(s); !ordered(l, err == api.OK) {
			t.Fatalf("Events of %q: %v, %d", s, l, err)
		}
	}
	for range 2000 {
		r := New()
		var l []api.Event
		for range chance.Intn(80) {
			told, _ := r.Take(next(chance, slices.Repeat([]string{"a"}, r.Depth())))
			l = append(l, told...)
		}
		if !ordered(l, r.Over()) {
			t.Fatalf("events: %v", l)
		}
		if open := balance(l); open != r.Depth() {
			t.Fatalf("events: %v: %d open, not %d", l, r.Depth(), open)
		}
	}
}

// balance is how many elements are open behind events.
func balance(l []api.Event) int {
	n := 0
	for _, e := range l {
		switch e.Kind {
		case api.Open:
			n++
		case api.Close:
			n--
		}
	}
	return n
}

// spoil changes all of some events, and what lies behind them.
func spoil(l []api.Event) {
	l = l[:cap(l)]
	for i := range l {
		attrs := l[i].Attrs[:cap(l[i].Attrs)]
		for j := range attrs {
			attrs[j] = api.Attr{Name: api.Name{Space: "spoilt", Local: "spoilt"}, Value: "spoilt"}
		}
		l[i] = api.Event{Kind: 9, Text: "spoilt"}
	}
}

// P8.4: a change of what was answered changes nothing of what comes.
func TestNewMemory(t *testing.T) {
	chance := rand.New(rand.NewSource(84))
	for range 1000 {
		s := document(chance)
		one, _, _ := Events(s)
		two, _, _ := Events(s)
		spoil(two)
		if three, _, _ := Events(s); !same(one, three) {
			t.Fatalf("Events of %q: %v, and behind a change of its answer %v", s, one, three)
		}
		tokens, _, _ := scan.All(s)
		r, clean := New(), New()
		for _, k := range tokens {
			got, err := r.Take(k)
			want, wantErr := clean.Take(k)
			if !same(got, want) || err != wantErr {
				t.Fatalf("%q: %v, %d behind changes of what was answered; not %v, %d", s, got, err, want, wantErr)
			}
			spoil(got)
		}
	}
}

// P8.4: what was answered stays as it was, whatever is taken behind it; and no two events share a list.
func TestAnswersStay(t *testing.T) {
	r := New()
	var kept, copied [][]api.Event
	take := func(k api.Token) {
		got, err := r.Take(k)
		if err != api.OK {
			t.Fatal(k, err)
		}
		again := slices.Clone(got)
		for i := range again {
			again[i].Attrs = slices.Clone(again[i].Attrs)
		}
		kept, copied = append(kept, got), append(copied, again)
	}
	take(start("a x='1'"))
	for range 50 {
		take(chars("some text"))
		take(start("b x='2' y='3'"))
		take(chars("another"))
		take(end("b"))
		take(chars("x"))
		take(empty("c x='4'"))
	}
	take(end("a"))
	for i := range kept {
		if !same(kept[i], copied[i]) {
			t.Fatalf("the answer %d, %v, was changed to %v", i, copied[i], kept[i])
		}
	}
	for i := range kept {
		spoil(kept[i])
		for j := i + 1; j < len(kept); j++ {
			if !same(kept[j], copied[j]) {
				t.Fatalf("a change of the answer %d changed %d", i, j)
			}
		}
	}
}

// shares tells whether two texts have bytes of memory in common.
func shares(a, b string) bool {
	if a == "" || b == "" {
		return false
	}
	x, y := uintptr(unsafe.Pointer(unsafe.StringData(a))), uintptr(unsafe.Pointer(unsafe.StringData(b)))
	return x < y+uintptr(len(b)) && y < x+uintptr(len(a))
}

// texts is all texts of some events.
func texts(l []api.Event) []string {
	var all []string
	for _, e := range l {
		all = append(all, e.Name.Space, e.Name.Local, e.Text)
		for _, a := range e.Attrs {
			all = append(all, a.Name.Space, a.Name.Local, a.Value)
		}
	}
	return all
}

// P8.4: no text of an answer lies in what was handed in.
func TestNewTexts(t *testing.T) {
	whole := strings.Clone("<prefix:local xmlns:prefix='space' xmlns='another' prefix:key='value' other='word'>some text<inner/>more</prefix:local>")
	l, _, err := Events(whole)
	if err != api.OK || len(l) != 6 {
		t.Fatal(l, err)
	}
	for _, s := range texts(l) {
		if shares(s, whole) {
			t.Errorf("%q lies in what was handed in", s)
		}
	}
	part := func(s string) string {
		at := strings.Index(whole, s)
		return whole[at : at+len(s)]
	}
	r := New()
	for _, k := range []api.Token{
		start(part("prefix:local xmlns:prefix='space' xmlns='another' prefix:key='value' other='word'")), chars(part("some text")), empty(part("inner")), chars(part("more")), end(part("prefix:local")),
	} {
		told, err := r.Take(k)
		if err != api.OK {
			t.Fatal(k, err)
		}
		for _, s := range texts(told) {
			if shares(s, whole) {
				t.Errorf("%q lies in the token that was handed in", s)
			}
		}
	}
}

// Rule 5: nothing of a token is kept: its bytes may be used again.
func TestTokensNotKept(t *testing.T) {
	bytes := make([]byte, 0, 100)
	r := New()
	lend := func(kind int, s string) ([]api.Event, api.Errno) {
		bytes = append(bytes[:0], s...)
		k := api.Token{Kind: kind, Text: unsafe.String(&bytes[0], len(bytes))}
		told, err := r.Take(k)
		for i := range bytes {
			bytes[i] = '#'
		}
		return told, err
	}
	var all []api.Event
	for _, x := range []struct {
		kind int
		s    string
	}{{api.Start, "p:a xmlns:p='u' p:x='1'"}, {api.Chars, "text"}, {api.Chars, "more"}, {api.Start, "p:b"}, {api.Chars, "in"}, {api.End, "p:b"}, {api.End, "p:a"}} {
		told, err := lend(x.kind, x.s)
		if err != api.OK {
			t.Fatal(x, err)
		}
		all = append(all, told...)
	}
	want := events(opens("u", "a", "u", "x", "1"), text("textmore"), opens("u", "b"), text("in"), shut, shut)
	if !same(all, want) {
		t.Errorf("events: %v; not %v", all, want)
	}
}

// Rule 3: beside an error of Take stands no list at all, and an Events without events answers none.
func TestNothingBeside(t *testing.T) {
	r := behind(t, start("a"), chars("x"))
	if told, err := r.Take(end("b")); !reflect.DeepEqual(told, []api.Event(nil)) || err != api.ErrClose {
		t.Errorf("Take: %v, %d", told, err)
	}
	if l, at, err := Events("</a>"); len(l) != 0 || at != 0 || err != api.ErrClose {
		t.Errorf("Events: %v, %d, %d", l, at, err)
	}
}

// P1 of the document: the calls end, and none panics, at long texts, many tokens and odd ones.
func TestLongAndOdd(t *testing.T) {
	long := strings.Repeat("a", 1<<20)
	r := New()
	takes(t, r, start(long+" "+long+"='"+long+"'"), 1, opens("", long, "", long, long))
	takes(t, r, chars(long), 1)
	takes(t, r, chars(long), 1)
	takes(t, r, end(long), 0, text(long+long), shut)
	// Many pieces of one text, and many elements beside each other.
	pieces := "<a>" + strings.Repeat("x<!---->", 200000) + "</a>"
	if l, at, err := Events(pieces); len(l) != 3 || len(l[1].Text) != 200000 || at != len(pieces) || err != api.OK {
		t.Errorf("Events of many pieces: %d, %d, %d", len(l), at, err)
	}
	beside := "<a>" + strings.Repeat("<b/>x", 100000) + "</a>"
	if l, at, err := Events(beside); len(l) != 300002 || at != len(beside) || err != api.OK {
		t.Errorf("Events of many elements: %d, %d, %d", len(l), at, err)
	}
	if l, at, err := Events(strings.Repeat("<a>", 100000)); len(l) != 64 || at != 192 || err != api.ErrLarge {
		t.Errorf("Events of elements too deep: %d, %d, %d", len(l), at, err)
	}
	chance := rand.New(rand.NewSource(1))
	const odds = "<>/ab: ='\"&;![]-?x\x00\xff\xc3\n"
	for range 20000 {
		bytes := make([]byte, chance.Intn(40))
		for i := range bytes {
			bytes[i] = odds[chance.Intn(len(odds))]
		}
		odd := string(bytes)
		if _, at, err := Events(odd); at < 0 || at > len(odd) || err == api.OK && at != len(odd) {
			t.Fatalf("Events of %q: %d, %d", odd, at, err)
		}
		reader := New()
		for kind := range 8 {
			reader.Take(api.Token{Kind: kind, Text: odd, Empty: chance.Intn(2) == 0, Blank: chance.Intn(2) == 0})
		}
	}
}
