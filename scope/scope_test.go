package scope

import (
	"math/rand"
	"reflect"
	"slices"
	"strconv"
	"strings"
	"testing"
	"unsafe"

	"oriel/api"
)

const (
	xmlSpace   = "http://www.w3.org/XML/1998/namespace"
	xmlnsSpace = "http://www.w3.org/2000/xmlns/"
)

// binds makes a list of bindings of prefixes and spaces in turn.
func binds(l ...string) []api.Bind {
	var list []api.Bind
	for i := 0; i < len(l); i += 2 {
		list = append(list, api.Bind{Prefix: l[i], Space: l[i+1]})
	}
	return list
}

// atFirst is the scope at first, with bindings behind it.
func atFirst(l ...string) []api.Bind {
	return append(binds("xml", xmlSpace), binds(l...)...)
}

// tag makes a tag of a name, and of attributes' names and values in turn.
func tag(full string, l ...string) api.Tag {
	t := api.Tag{Name: full}
	for i := 0; i < len(l); i += 2 {
		t.Attrs = append(t.Attrs, api.Raw{Name: l[i], Value: l[i+1]})
	}
	return t
}

// open makes an event of a space and local name, and of attributes' spaces, local names and values in turn.
func open(space, local string, l ...string) api.Event {
	e := api.Event{Kind: api.Open, Name: api.Name{Space: space, Local: local}}
	for i := 0; i < len(l); i += 3 {
		e.Attrs = append(e.Attrs, api.Attr{Name: api.Name{Space: l[i], Local: l[i+1]}, Value: l[i+2]})
	}
	return e
}

// same tells whether two events are one; nil and empty lists are.
func same(a, b api.Event) bool {
	return a.Kind == b.Kind && a.Name == b.Name && a.Text == b.Text && slices.Equal(a.Attrs, b.Attrs)
}

// enters holds what is answered of a tag without an error: what stands in the scope behind l, and the event.
func enters(t *testing.T, l []api.Bind, x api.Tag, more []api.Bind, want api.Event) []api.Bind {
	t.Helper()
	within, event, err := Enter(l, x)
	if !slices.Equal(within, slices.Concat(l, more)) || !same(event, want) || err != api.OK {
		t.Errorf("Enter of %.200q, %.200q: %.200q, %.200v, %d; not %.200q behind, %.200v, 0", l, x, within, event, err, more, want)
	}
	return within
}

// fails holds the error of a tag, and that nil and Event{} stand beside it.
func fails(t *testing.T, l []api.Bind, x api.Tag, want api.Errno) {
	t.Helper()
	within, event, err := Enter(l, x)
	if within != nil || !reflect.DeepEqual(event, api.Event{}) || err != want {
		t.Errorf("Enter of %.200q, %.200q: %.200q, %.200v, %d; not nil, Event{}, %d", l, x, within, event, err, want)
	}
}

// P7.1: the scope at first is xml alone.
func TestNew(t *testing.T) {
	if got := New(); !slices.Equal(got, binds("xml", xmlSpace)) {
		t.Errorf("New: %q", got)
	}
	if api.XmlSpace != xmlSpace || api.XmlnsSpace != xmlnsSpace {
		t.Error("the spaces that stand fast are others")
	}
}

// P7.1: a prefix's space is that of its latest binding.
func TestFind(t *testing.T) {
	for _, x := range []struct {
		l      []api.Bind
		prefix string
		want   string
		ok     bool
	}{
		{New(), "xml", xmlSpace, true},
		{New(), "", "", true},
		{New(), "p", "", false},
		{New(), "xmlns", "", false},
		{New(), "XML", "", false},
		{New(), "xm", "", false},
		{New(), "xmll", "", false},
		{New(), xmlSpace, "", false},
		{nil, "", "", true},
		{nil, "xml", "", false},
		{nil, "xmlns", "", false},
		{nil, "p", "", false},
		{[]api.Bind{}, "", "", true},
		{[]api.Bind{}, "xml", "", false},
		{atFirst("", "u"), "", "u", true},
		{atFirst("", "u"), "p", "", false},
		{atFirst("", "u"), "xml", xmlSpace, true},
		{atFirst("", "u", "", ""), "", "", true},
		{atFirst("", "u", "", "v"), "", "v", true},
		{atFirst("", "", "", "v"), "", "v", true},
		{atFirst("p", "u"), "p", "u", true},
		{atFirst("p", "u"), "", "", true},
		{atFirst("p", "u"), "q", "", false},
		{atFirst("p", "u"), "P", "", false},
		{atFirst("p", "u"), "u", "", false},
		{atFirst("p", "u", "p", "v"), "p", "v", true},
		{atFirst("p", "u", "q", "w", "p", "v", "", "x"), "p", "v", true},
		{atFirst("p", "u", "q", "w", "p", "v", "", "x"), "q", "w", true},
		{atFirst("p", "u", "p", "v", "p", "u"), "p", "u", true},
		{atFirst("p", "u", "pp", "v"), "p", "u", true},
		{binds("p", "u", "p", "v"), "p", "v", true},
		{binds("p", "u"), "xml", "", false},
		{atFirst("\u00e9", "\u00fc"), "\u00e9", "\u00fc", true},
		{atFirst("\u00e9", "\u00fc"), "e\u0301", "", false},
		{atFirst("\xff", "\xfe"), "\xff", "\xfe", true},
		{atFirst("\xff", "\xfe"), "\ufffd", "", false},
	} {
		if got, ok := Find(x.l, x.prefix); got != x.want || ok != x.ok {
			t.Errorf("Find of %q, %q: %q, %t; not %q, %t", x.l, x.prefix, got, ok, x.want, x.ok)
		}
	}
}

// P7.2: tags without attributes, in scopes of all kinds.
func TestElement(t *testing.T) {
	for _, x := range []struct {
		l    []api.Bind
		full string
		want api.Event
	}{
		{New(), "a", open("", "a")},
		{New(), "xml:a", open(xmlSpace, "a")},
		{New(), "xml", open("", "xml")},
		{New(), "xmlns", open("", "xmlns")},
		{New(), "\u00e9", open("", "\u00e9")},
		{nil, "a", open("", "a")},
		{[]api.Bind{}, "a", open("", "a")},
		{atFirst("", "u"), "a", open("u", "a")},
		{atFirst("", "u"), "xml:a", open(xmlSpace, "a")},
		{atFirst("", "u"), "xmlns", open("u", "xmlns")},
		{atFirst("", "u", "", ""), "a", open("", "a")},
		{atFirst("p", "u"), "p:a", open("u", "a")},
		{atFirst("p", "u"), "a", open("", "a")},
		{atFirst("p", "u"), "p", open("", "p")},
		{atFirst("p", "u"), "p:xmlns", open("u", "xmlns")},
		{atFirst("p", "u", "p", "v", "", "w"), "p:a", open("v", "a")},
		{atFirst("p", "u", "p", "v", "", "w"), "a", open("w", "a")},
		{atFirst("\u00e9", "\u00fc"), "\u00e9:\u00e9", open("\u00fc", "\u00e9")},
	} {
		enters(t, x.l, tag(x.full), nil, x.want)
		enters(t, x.l, api.Tag{Name: x.full, Attrs: []api.Raw{}}, nil, x.want)
	}
	for _, full := range []string{"q:a", "u:a", "P:a", "pp:a", "xmlns:a", "xmlns:xmlns", "xmlns:xml", "XML:a", "a:xml"} {
		fails(t, atFirst("p", "u"), tag(full), api.ErrScope)
		fails(t, atFirst("", "u", "p", "v"), tag(full), api.ErrScope)
		fails(t, New(), tag(full), api.ErrScope)
	}
	fails(t, nil, tag("xml:a"), api.ErrScope)
	fails(t, nil, tag("p:a"), api.ErrScope)
}

// P7.2: bindings in a tag hold for all its names, and are none of its attributes.
func TestBindings(t *testing.T) {
	enters(t, New(), tag("a", "xmlns", "u"), binds("", "u"), open("u", "a"))
	enters(t, New(), tag("a", "xmlns:p", "u"), binds("p", "u"), open("", "a"))
	enters(t, New(), tag("p:a", "xmlns:p", "u"), binds("p", "u"), open("u", "a"))
	enters(t, New(), tag("p:a", "xmlns:p", "u", "p:b", "1"), binds("p", "u"), open("u", "a", "u", "b", "1"))
	enters(t, New(), tag("p:a", "p:b", "1", "xmlns:p", "u"), binds("p", "u"), open("u", "a", "u", "b", "1"))
	enters(t, New(), tag("a", "xmlns", "u", "xmlns:p", "v"), binds("", "u", "p", "v"), open("u", "a"))
	enters(t, New(), tag("a", "xmlns:p", "v", "xmlns", "u"), binds("p", "v", "", "u"), open("u", "a"))
	enters(t, New(), tag("p:a", "x", "1", "xmlns:q", "v", "q:y", "2", "xmlns", "u", "p:z", "3", "xmlns:p", "w"), binds("q", "v", "", "u", "p", "w"), open("w", "a", "", "x", "1", "v", "y", "2", "w", "z", "3"))
	enters(t, nil, tag("p:a", "xmlns:p", "u"), binds("p", "u"), open("u", "a"))
	// The same prefix is bound outside.
	outside := atFirst("p", "u", "", "v")
	enters(t, outside, tag("p:a", "xmlns:p", "w", "p:x", "1"), binds("p", "w"), open("w", "a", "w", "x", "1"))
	enters(t, outside, tag("a", "xmlns", "w", "x", "1"), binds("", "w"), open("w", "a", "", "x", "1"))
	enters(t, outside, tag("a", "xmlns", ""), binds("", ""), open("", "a"))
	enters(t, outside, tag("p:a", "xmlns:p", "u"), binds("p", "u"), open("u", "a"))
	enters(t, outside, tag("p:a", "xmlns:q", "w"), binds("q", "w"), open("u", "a"))
	// One prefix twice in a tag: the latest counts (no tag that is read has this).
	enters(t, New(), tag("p:a", "xmlns:p", "u", "p:x", "1", "xmlns:p", "v"), binds("p", "u", "p", "v"), open("v", "a", "v", "x", "1"))
	// Names that only look like bindings.
	enters(t, outside, tag("a", "xmlnsp", "1", "p:xmlns", "2", "xml:xmlns", "3", "XMLNS", "4", "xml", "5"), nil, open("v", "a", "", "xmlnsp", "1", "u", "xmlns", "2", xmlSpace, "xmlns", "3", "", "XMLNS", "4", "", "xml", "5"))
	enters(t, New(), tag("\u00e9:a", "xmlns:\u00e9", "\u00fc", "\u00e9:\u00e0", "\u00f6"), binds("\u00e9", "\u00fc"), open("\u00fc", "a", "\u00fc", "\u00e0", "\u00f6"))
}

// wrongBindings is each binding that is ErrScope.
var wrongBindings = [][2]string{
	{"xmlns:xmlns", "u"}, {"xmlns:xmlns", ""}, {"xmlns:xmlns", xmlSpace}, {"xmlns:xmlns", xmlnsSpace},
	{"xmlns:xml", "u"}, {"xmlns:xml", ""}, {"xmlns:xml", xmlnsSpace}, {"xmlns:xml", xmlSpace + "/"}, {"xmlns:xml", " " + xmlSpace}, {"xmlns:xml", strings.ToUpper(xmlSpace)},
	{"xmlns:p", xmlSpace}, {"xmlns:q", xmlSpace}, {"xmlns:XML", xmlSpace}, {"xmlns", xmlSpace},
	{"xmlns:p", xmlnsSpace}, {"xmlns:q", xmlnsSpace}, {"xmlns", xmlnsSpace},
	{"xmlns:p", ""}, {"xmlns:q", ""}, {"xmlns:\u00e9", ""},
}

// rightBindings is what is near to those.
var rightBindings = [][2]string{
	{"xmlns:xml", xmlSpace},
	{"xmlns", ""},
	{"xmlns:p", xmlSpace + "/"}, {"xmlns", xmlSpace + "#"}, {"xmlns", xmlSpace[:len(xmlSpace)-1]}, {"xmlns:p", xmlnsSpace + "a"}, {"xmlns", xmlnsSpace[:len(xmlnsSpace)-1]},
	{"xmlns:p", " "}, {"xmlns", " "}, {"xmlns:p", "xml"}, {"xmlns:p", "xmlns"}, {"xmlns:XMLNS", "u"}, {"xmlns:XML", "u"}, {"xmlns:xmlnsx", "u"}, {"xmlns:xmlx", "u"}, {"xmlns:p", "p"}, {"xmlns", "\u00e9\n<&"},
}

// P7.2: each binding that may not be, and those beside them that may.
func TestWhichBindings(t *testing.T) {
	for _, l := range [][]api.Bind{New(), nil, atFirst("p", "u", "", "v"), atFirst("p", "u", "p", "v")} {
		for _, b := range wrongBindings {
			fails(t, l, tag("a", b[0], b[1]), api.ErrScope)
			fails(t, l, tag("a", "x", "1", b[0], b[1]), api.ErrScope)
			fails(t, l, tag("a", "xmlns:z", "u", b[0], b[1], "x", "1"), api.ErrScope)
		}
		for _, b := range rightBindings {
			prefix := strings.TrimPrefix(strings.TrimPrefix(b[0], "xmlns"), ":")
			space, _ := Find(append(slices.Clone(l), binds(prefix, b[1])...), "")
			enters(t, l, tag("a", b[0], b[1]), binds(prefix, b[1]), open(space, "a"))
			enters(t, l, tag("a", "x", "1", b[0], b[1], "y", "2"), binds(prefix, b[1]), open(space, "a", "", "x", "1", "", "y", "2"))
		}
	}
	enters(t, New(), tag("xml:a", "xmlns:xml", xmlSpace, "xml:b", "1"), binds("xml", xmlSpace), open(xmlSpace, "a", xmlSpace, "b", "1"))
}

// P7.2: names of attributes.
func TestAttributes(t *testing.T) {
	l := atFirst("p", "u", "", "v")
	enters(t, New(), tag("a", "x", "1"), nil, open("", "a", "", "x", "1"))
	enters(t, l, tag("a", "x", "1"), nil, open("v", "a", "", "x", "1"))
	enters(t, l, tag("a", "p:x", "1"), nil, open("v", "a", "u", "x", "1"))
	enters(t, l, tag("a", "xml:x", "1"), nil, open("v", "a", xmlSpace, "x", "1"))
	enters(t, New(), tag("a", "xml:lang", "de", "xml", "1"), nil, open("", "a", xmlSpace, "lang", "de", "", "xml", "1"))
	enters(t, l, tag("a", "a", "1", "p", "2"), nil, open("v", "a", "", "a", "1", "", "p", "2"))
	enters(t, l, tag("a", "y", "2", "x", "1", "p:z", "", "b", " \n<&\u00e9\xff"), nil, open("v", "a", "", "y", "2", "", "x", "1", "u", "z", "", "", "b", " \n<&\u00e9\xff"))
	for _, full := range []string{"q:x", "P:x", "u:x", "pp:x", "x:p"} {
		fails(t, l, tag("a", full, "1"), api.ErrScope)
		fails(t, l, tag("p:a", "x", "1", "p:y", "2", full, "1", "z", "3"), api.ErrScope)
	}
	fails(t, nil, tag("a", "xml:x", "1"), api.ErrScope)
}

// P7.2: two attributes with the same name, by their spaces.
func TestTwice(t *testing.T) {
	l := atFirst("p", "u", "q", "u", "r", "w", "", "u")
	for _, x := range []api.Tag{
		tag("a", "p:x", "1", "q:x", "2"),
		tag("a", "q:x", "1", "p:x", "1"),
		tag("a", "x", "1", "p:x", "1", "y", "2", "q:x", "2", "z", "3"),
		tag("a", "p:x", "1", "p:x", "2"),
		tag("a", "x", "1", "x", "1"),
		tag("a", "p:x", "1", "s:x", "2", "xmlns:s", "u"),
		tag("a", "xmlns:r", "u", "p:x", "1", "r:x", "2"),
		tag("a", "p:x", "1", "r:x", "2", "xmlns:p", "w"),
		tag("a", "xml:x", "1", "xmlns:xml", xmlSpace, "xml:x", "2"),
	} {
		fails(t, l, x, api.ErrTwice)
	}
	enters(t, l, tag("a", "p:x", "1", "r:x", "2", "x", "3", "xml:x", "4"), nil, open("u", "a", "u", "x", "1", "w", "x", "2", "", "x", "3", xmlSpace, "x", "4"))
	enters(t, l, tag("a", "p:x", "1", "q:y", "1"), nil, open("u", "a", "u", "x", "1", "u", "y", "1"))
	enters(t, l, tag("a", "p:x", "1", "q:X", "1"), nil, open("u", "a", "u", "x", "1", "u", "X", "1"))
	enters(t, l, tag("a", "p:x", "1", "q:x", "2", "xmlns:q", "v"), binds("q", "v"), open("u", "a", "u", "x", "1", "v", "x", "2"))
	// An attribute without a prefix has no space, though the default one is p's.
	enters(t, l, tag("a", "p:x", "1", "x", "2"), nil, open("u", "a", "u", "x", "1", "", "x", "2"))
	// The element's own name is none of an attribute's.
	enters(t, l, tag("p:a", "p:a", "1", "a", "2"), nil, open("u", "a", "u", "a", "1", "", "a", "2"))
	// Space and local name are held apart.
	enters(t, atFirst("p", "u", "q", "ux"), tag("a", "p:xy", "1", "q:y", "2"), nil, open("", "a", "u", "xy", "1", "ux", "y", "2"))
}

// P7.2: each two of the errors in one tag: bindings in order, the element's prefix, the attributes in order.
func TestOrder(t *testing.T) {
	l := atFirst("p", "u", "q", "u")
	twice := []string{"p:x", "1", "q:x", "2"}
	for _, b := range wrongBindings {
		bad := b[:]
		fails(t, l, tag("xmlns:a", bad...), api.ErrScope)
		fails(t, l, tag("z:a", bad...), api.ErrScope)
		fails(t, l, tag("a", slices.Concat(twice, bad)...), api.ErrScope)
		fails(t, l, tag("a", slices.Concat(bad, twice)...), api.ErrScope)
		fails(t, l, tag("a", slices.Concat(twice[:2], bad, twice[2:])...), api.ErrScope)
		fails(t, l, tag("a", slices.Concat([]string{"z:x", "1"}, bad)...), api.ErrScope)
		for _, c := range wrongBindings {
			fails(t, l, tag("a", slices.Concat(bad, c[:])...), api.ErrScope)
		}
	}
	for _, full := range []string{"z:a", "xmlns:a"} {
		fails(t, l, tag(full, twice...), api.ErrScope)
		fails(t, l, tag(full, "z:x", "1"), api.ErrScope)
		fails(t, l, tag(full, slices.Concat(twice, []string{"z:x", "1"})...), api.ErrScope)
	}
	// Of attributes, the first that is wrong counts.
	fails(t, l, tag("a", "z:x", "1", "p:x", "1", "q:x", "2"), api.ErrScope)
	fails(t, l, tag("a", "p:x", "1", "z:x", "1", "q:x", "2"), api.ErrScope)
	fails(t, l, tag("a", "p:x", "1", "q:x", "2", "z:x", "1"), api.ErrTwice)
	fails(t, l, tag("a", "x", "1", "p:x", "1", "q:x", "2", "p:x", "3", "z:x", "1"), api.ErrTwice)
	fails(t, l, tag("a", "z:x", "1", "z:x", "2"), api.ErrScope)
	fails(t, l, tag("a", "p:x", "1", "q:x", "2", "z:x", "3", "xmlns:z", "u"), api.ErrTwice)
}

// P7.2: names of texts, as of elements.
func TestNames(t *testing.T) {
	l := atFirst("p", "u", "", "v", "p", "w", "q", "x")
	for _, x := range []struct {
		l     []api.Bind
		texts []string
		want  []api.Name
	}{
		{l, nil, nil},
		{nil, nil, nil},
		{New(), []string{"a"}, []api.Name{{Space: "", Local: "a"}}},
		{New(), []string{"xml:a"}, []api.Name{{Space: xmlSpace, Local: "a"}}},
		{New(), []string{"xmlns"}, []api.Name{{Space: "", Local: "xmlns"}}},
		{nil, []string{"a"}, []api.Name{{Space: "", Local: "a"}}},
		{l, []string{"a"}, []api.Name{{Space: "v", Local: "a"}}},
		{l, []string{"p:a"}, []api.Name{{Space: "w", Local: "a"}}},
		{l, []string{"a", "p:b"}, []api.Name{{Space: "v", Local: "a"}, {Space: "w", Local: "b"}}},
		{l, []string{"q:b", "a", "xml:c", "a", "p:xmlns"}, []api.Name{{Space: "x", Local: "b"}, {Space: "v", Local: "a"}, {Space: xmlSpace, Local: "c"}, {Space: "v", Local: "a"}, {Space: "w", Local: "xmlns"}}},
		{atFirst("\u00e9", "u"), []string{"\u00e9:\u00e0", "\u00e0"}, []api.Name{{Space: "u", Local: "\u00e0"}, {Space: "", Local: "\u00e0"}}},
	} {
		if got, err := Names(x.l, x.texts...); !slices.Equal(got, x.want) || err != api.OK {
			t.Errorf("Names of %q, %q: %q, %d; not %q, 0", x.l, x.texts, got, err, x.want)
		}
	}
	for _, bad := range []string{"", " ", "1", ":", "a:", ":a", "a:b:c", "p:1", "p:", "p:a ", " a", "a b", "a=", "-", "<a>", "\u00d7", "z:a", "P:a", "u:a", "xmlns:a", "xmlns:xml", "xmlns:", "XML:a", "{u}a"} {
		for _, texts := range [][]string{{bad}, {"a", bad}, {bad, "a"}, {"p:a", "a", bad, "q:b"}, {bad, bad}, {"a", bad, "zz:b"}} {
			for _, scope := range [][]api.Bind{l, New(), nil} {
				if got, err := Names(scope, texts...); got != nil || err != api.ErrScope {
					t.Errorf("Names of %q, %q: %q, %d; not nil, %d", scope, texts, got, err, api.ErrScope)
				}
			}
		}
	}
	if got, err := Names(atFirst("xmlns", "u"), "xmlns:a"); got != nil || err != api.ErrScope {
		t.Errorf("Names with the prefix xmlns, where a list binds it: %q, %d", got, err)
	}
	fails(t, atFirst("xmlns", "u"), tag("xmlns:a"), api.ErrScope)
}

// P7.2: Names is as of elements: Enter of each text as a tag without attributes.
func TestNamesAsOfElements(t *testing.T) {
	for _, l := range [][]api.Bind{New(), nil, atFirst("p", "u", "", "v"), atFirst("", "v", "", "", "p", "w")} {
		for _, full := range []string{"a", "p:a", "q:a", "xml:a", "xmlns:a", "xmlns", "p", "p:p"} {
			_, event, err := Enter(l, tag(full))
			names, again := Names(l, full)
			if err != again || err == api.OK && (len(names) != 1 || names[0] != event.Name) {
				t.Errorf("%q in %q: %v, %d as a tag; %q, %d as a text", full, l, event, err, names, again)
			}
		}
	}
}

// P7.3: a binding within holds ahead of one outside, and only within.
func TestWithin(t *testing.T) {
	outside := enters(t, New(), tag("a", "xmlns", "u", "xmlns:p", "v"), binds("", "u", "p", "v"), open("u", "a"))
	within := enters(t, outside, tag("p:b", "xmlns", "", "xmlns:p", "w", "xmlns:q", "x"), binds("", "", "p", "w", "q", "x"), open("w", "b"))
	deeper := enters(t, within, tag("q:c", "xmlns:q", "y", "p:x", "1"), binds("q", "y"), open("y", "c", "w", "x", "1"))
	for _, x := range []struct {
		l    []api.Bind
		want [3]string
	}{
		{New(), [3]string{"", "", ""}},
		{outside, [3]string{"u", "v", ""}},
		{within, [3]string{"", "w", "x"}},
		{deeper, [3]string{"", "w", "y"}},
		{outside, [3]string{"u", "v", ""}},
	} {
		for i, prefix := range []string{"", "p", "q"} {
			if got, _ := Find(x.l, prefix); got != x.want[i] {
				t.Errorf("%q in %q: %q; not %q", prefix, x.l, got, x.want[i])
			}
		}
	}
	// Behind the element, the scope outside is used again: a sibling has nothing of it.
	enters(t, outside, tag("p:d", "p:x", "1"), nil, open("v", "d", "v", "x", "1"))
	enters(t, outside, tag("d"), nil, open("u", "d"))
	fails(t, outside, tag("q:d"), api.ErrScope)
	fails(t, New(), tag("p:d"), api.ErrScope)
	enters(t, outside, tag("q:d", "xmlns:q", "z"), binds("q", "z"), open("z", "d"))
}

// fault is an error of a tag, and where it counts among the others: the step (bindings, element, attributes), the attribute, and which error of it.
type fault struct {
	step, at, kind int
	err            api.Errno
}

// first is the error that counts.
func first(l []fault) api.Errno {
	if len(l) == 0 {
		return api.OK
	}
	return slices.MinFunc(l, func(a, b fault) int {
		return slices.Compare([]int{a.step, a.at, a.kind}, []int{b.step, b.at, b.kind})
	}).err
}

// cut parts what is a name.
func cut(full string) (string, string) {
	if at := strings.IndexByte(full, ':'); at >= 0 {
		return full[:at], full[at+1:]
	}
	return "", full
}

// words is Enter, by the chapter's words tried out anew: all faults of a tag are gathered, and the spaces kept by prefix.
func words(l []api.Bind, x api.Tag) ([]api.Bind, api.Event, api.Errno) {
	var faults []fault
	within := slices.Clone(l)
	binding := func(a api.Raw) (string, bool) {
		if a.Name == "xmlns" {
			return "", true
		}
		return strings.CutPrefix(a.Name, "xmlns:")
	}
	for i, a := range x.Attrs {
		if p, ok := binding(a); ok {
			if p == "xmlns" || p == "xml" && a.Value != xmlSpace || p != "xml" && a.Value == xmlSpace || a.Value == xmlnsSpace || p != "" && a.Value == "" {
				faults = append(faults, fault{0, i, 0, api.ErrScope})
			}
			within = append(within, api.Bind{Prefix: p, Space: a.Value})
		}
	}
	spaces := map[string]string{"": ""}
	for _, b := range within {
		spaces[b.Prefix] = b.Space
	}
	named := func(full string, step, at int) api.Name {
		p, local := cut(full)
		space, ok := spaces[p]
		if !ok || p == "xmlns" {
			faults = append(faults, fault{step, at, 0, api.ErrScope})
		}
		return api.Name{Space: space, Local: local}
	}
	event := api.Event{Kind: api.Open, Name: named(x.Name, 1, 0)}
	places := []int{}
	for i, a := range x.Attrs {
		if _, ok := binding(a); ok {
			continue
		}
		n := api.Name{Local: a.Name}
		if strings.Contains(a.Name, ":") {
			n = named(a.Name, 2, i)
		}
		event.Attrs = append(event.Attrs, api.Attr{Name: n, Value: a.Value})
		places = append(places, i)
	}
	for i, a := range event.Attrs {
		for _, b := range event.Attrs[:i] {
			if a.Name == b.Name {
				faults = append(faults, fault{2, places[i], 1, api.ErrTwice})
			}
		}
	}
	if err := first(faults); err != api.OK {
		return nil, api.Event{}, err
	}
	return within, event, api.OK
}

// holds holds Enter against the words, and answers the error.
func holds(t *testing.T, l []api.Bind, x api.Tag) api.Errno {
	t.Helper()
	within, event, err := Enter(l, x)
	wantWithin, wantEvent, wantErr := words(l, x)
	if !slices.Equal(within, wantWithin) || !same(event, wantEvent) || err != wantErr {
		t.Fatalf("Enter of %q, %q: %q, %v, %d; not %q, %v, %d", l, x, within, event, err, wantWithin, wantEvent, wantErr)
	}
	return err
}

// P7.2: all tags of up to four of some attributes, against the words.
func TestShortTags(t *testing.T) {
	attrs := [][2]string{
		{"xmlns", "u"}, {"xmlns", ""}, {"xmlns:p", "u"}, {"xmlns:p", ""}, {"xmlns:q", "u"}, {"xmlns:q", "v"}, {"xmlns:xml", xmlSpace}, {"xmlns:p", xmlSpace},
		{"x", "1"}, {"p:x", "2"}, {"q:x", "3"}, {"p:y", "4"}, {"xml:x", "5"},
	}
	scopes := [][]api.Bind{New(), nil, atFirst("p", "u", "", "w")}
	var behind func(l []string, n int)
	behind = func(l []string, n int) {
		for _, scope := range scopes {
			for _, full := range []string{"a", "p:a", "q:x", "xmlns:a"} {
				holds(t, scope, tag(full, l...))
			}
		}
		for _, a := range attrs {
			if n > 0 {
				behind(append(slices.Clip(l), a[0], a[1]), n-1)
			}
		}
	}
	behind(nil, 4)
}

// made makes a tag of some chance, mostly right.
func made(chance *rand.Rand) api.Tag {
	pick := func(l ...string) string { return l[chance.Intn(len(l))] }
	full := func() string {
		if chance.Intn(40) == 0 {
			return pick("z", "xmlns", "P") + ":" + pick("a", "b")
		}
		return pick("", "", "p:", "q:", "r:", "xml:") + pick("a", "b", "x", "y", "xml", "\u00e9", "a1", "a2", "a3")
	}
	x := tag(full())
	for range chance.Intn(9) {
		switch chance.Intn(8) {
		case 0, 1, 2:
			x.Attrs = append(x.Attrs, api.Raw{Name: pick("xmlns", "xmlns:p", "xmlns:q", "xmlns:r", "xmlns:s"), Value: pick("u", "v", "w", "ux")})
		case 3:
			if chance.Intn(4) == 0 {
				b := wrongBindings[chance.Intn(len(wrongBindings))]
				x.Attrs = append(x.Attrs, api.Raw{Name: b[0], Value: b[1]})
				continue
			}
			b := rightBindings[chance.Intn(len(rightBindings))]
			x.Attrs = append(x.Attrs, api.Raw{Name: b[0], Value: b[1]})
		default:
			x.Attrs = append(x.Attrs, api.Raw{Name: full(), Value: pick("", "1", "u", "\u00e9 \n")})
		}
	}
	return x
}

// P7.2 and P7.3: tags one within the other and side by side, against the words, and against the spaces that were bound on the way in.
func TestAgainstTheWords(t *testing.T) {
	chance := rand.New(rand.NewSource(7))
	seen := map[api.Errno]int{}
	for range 3000 {
		scopes := [][]api.Bind{atFirst("p", "u", "q", "v", "r", "u")}
		for range 20 {
			if len(scopes) > 1 && chance.Intn(3) == 0 {
				scopes = scopes[:len(scopes)-1]
			}
			x := made(chance)
			outside := scopes[len(scopes)-1]
			seen[holds(t, outside, x)]++
			if within, _, err := Enter(outside, x); err == api.OK {
				scopes = append(scopes, within)
			}
		}
		onTheWay := map[string]string{"": ""}
		for _, b := range scopes[len(scopes)-1] {
			onTheWay[b.Prefix] = b.Space
		}
		for _, prefix := range []string{"", "p", "q", "r", "s", "z", "xml", "xmlns"} {
			want, bound := onTheWay[prefix]
			if got, ok := Find(scopes[len(scopes)-1], prefix); got != want || ok != bound {
				t.Fatalf("Find of %q, %q: %q, %t; not %q, %t", scopes[len(scopes)-1], prefix, got, ok, want, bound)
			}
		}
	}
	for _, err := range []api.Errno{api.OK, api.ErrScope, api.ErrTwice} {
		if seen[err] < 1000 {
			t.Errorf("too few tags answer %d: %d", err, seen[err])
		}
	}
}

// copies makes new lists of the same.
func copies(l []api.Bind, x api.Tag) ([]api.Bind, api.Tag) {
	return slices.Clone(l), api.Tag{Name: x.Name, Attrs: slices.Clone(x.Attrs)}
}

// P7.4: what is handed in stays, though there is room behind it.
func TestStays(t *testing.T) {
	chance := rand.New(rand.NewSource(74))
	for range 2000 {
		l := append(make([]api.Bind, 0, 40), atFirst("p", "u", "q", "v", "r", "w")...)
		room := l[:40]
		x := made(chance)
		attrs := append(make([]api.Raw, 0, 40), x.Attrs...)
		x.Attrs = attrs
		names := []string{"a", "p:b", "xml:c"}
		keptRoom, keptTag := copies(room, api.Tag{Name: x.Name, Attrs: attrs[:40]})
		Enter(l, x)
		Enter(l[:2], x)
		Names(l, names...)
		Find(l, "p")
		if !slices.Equal(room, keptRoom) || x.Name != keptTag.Name || !slices.Equal(attrs[:40], keptTag.Attrs) || !slices.Equal(names, []string{"a", "p:b", "xml:c"}) {
			t.Fatalf("%q, %q were changed to %q, %q", keptRoom, keptTag, room, x)
		}
	}
}

// spoil changes all of a scope, and what lies behind it.
func spoil(l []api.Bind) {
	l = l[:cap(l)]
	for i := range l {
		l[i] = api.Bind{Prefix: "spoilt", Space: "spoilt"}
	}
}

// P7.4: a change of what was answered, or of what was handed in, changes no other answer.
func TestNewMemory(t *testing.T) {
	one := New()
	spoil(one)
	if got := New(); !slices.Equal(got, binds("xml", xmlSpace)) {
		t.Errorf("New, behind a change of its answer: %q", got)
	}
	chance := rand.New(rand.NewSource(47))
	for range 2000 {
		l, x := atFirst("p", "u", "q", "v", "r", "w"), made(chance)
		wantWithin, wantEvent, err := words(l, x)
		if err != api.OK {
			continue
		}
		keptL, keptX := copies(l, x)
		within, event, _ := Enter(l, x)
		sibling, other, _ := Enter(l, x)
		spoil(sibling)
		for i := range other.Attrs {
			other.Attrs[i] = api.Attr{Value: "spoilt"}
		}
		if again, e, _ := Enter(l, x); !slices.Equal(again, wantWithin) || !same(e, wantEvent) {
			t.Fatalf("Enter of %q, %q, behind a change of its answer: %q, %v", l, x, again, e)
		}
		if !slices.Equal(l, keptL) || !slices.Equal(x.Attrs, keptX.Attrs) {
			t.Fatalf("a change of an answer changed %q, %q", keptL, keptX)
		}
		spoil(l)
		for i := range x.Attrs {
			x.Attrs[i] = api.Raw{Name: "spoilt", Value: "spoilt"}
		}
		if !slices.Equal(within, wantWithin) || !same(event, wantEvent) {
			t.Fatalf("Enter of %q, %q: its answer was changed to %q, %v", keptL, keptX, within, event)
		}
	}
}

// P7.4: siblings in one scope have lists of their own, and so have a scope and one within it without bindings.
func TestSiblings(t *testing.T) {
	outside, _, _ := Enter(New(), tag("a", "xmlns:p", "u", "xmlns:q", "v"))
	one, _, _ := Enter(outside, tag("b", "xmlns:r", "w"))
	two, _, _ := Enter(outside, tag("b", "xmlns:s", "x"))
	three, _, _ := Enter(outside, tag("b"))
	for i, want := range [][]api.Bind{atFirst("p", "u", "q", "v", "r", "w"), atFirst("p", "u", "q", "v", "s", "x"), atFirst("p", "u", "q", "v")} {
		if got := [][]api.Bind{one, two, three}[i]; !slices.Equal(got, want) {
			t.Errorf("sibling %d: %q; not %q", i, got, want)
		}
	}
	spoil(three)
	if !slices.Equal(outside, atFirst("p", "u", "q", "v")) {
		t.Errorf("the scope outside was changed: %q", outside)
	}
	names, _ := Names(outside, "p:a", "q:b")
	names[0] = api.Name{Space: "spoilt"}
	if again, _ := Names(outside, "p:a", "q:b"); again[0] != (api.Name{Space: "u", Local: "a"}) {
		t.Errorf("Names, behind a change of its answer: %q", again)
	}
}

// shares tells whether two texts have bytes of memory in common.
func shares(a, b string) bool {
	if a == "" || b == "" {
		return false
	}
	x, y := uintptr(unsafe.Pointer(unsafe.StringData(a))), uintptr(unsafe.Pointer(unsafe.StringData(b)))
	return x < y+uintptr(len(b)) && y < x+uintptr(len(a))
}

// P7.4: no text of an answer lies in what was handed in.
func TestNewTexts(t *testing.T) {
	whole := strings.Clone("prefix:local xmlns:other space another value")
	part := func(s string) string {
		at := strings.Index(whole, s)
		return whole[at : at+len(s)]
	}
	l := []api.Bind{{Prefix: part("prefix"), Space: part("space")}, {Prefix: "", Space: part("another")}}
	x := api.Tag{Name: part("prefix:local"), Attrs: []api.Raw{{Name: part("xmlns:other"), Value: part("another")}, {Name: part("local"), Value: part("value")}, {Name: part("prefix:local"), Value: part("value")}}}
	within, event, err := Enter(l, x)
	if err != api.OK {
		t.Fatal(err)
	}
	var texts []string
	for _, b := range within {
		texts = append(texts, b.Prefix, b.Space)
	}
	texts = append(texts, event.Name.Space, event.Name.Local)
	for _, a := range event.Attrs {
		texts = append(texts, a.Name.Space, a.Name.Local, a.Value)
	}
	names, _ := Names(l, part("prefix:local"), part("local"))
	for _, n := range names {
		texts = append(texts, n.Space, n.Local)
	}
	space, _ := Find(l, part("prefix"))
	texts = append(texts, space)
	if len(texts) != 19 {
		t.Fatalf("other texts: %q", texts)
	}
	for i, s := range texts {
		if shares(s, whole) {
			t.Errorf("the text %d, %q, lies in what was handed in", i, s)
		}
	}
}

// P1 of the document: the calls end, and none panics, at long lists and texts, and at tags whose names are none.
func TestLongAndOdd(t *testing.T) {
	long := strings.Repeat("a", 1<<20)
	enters(t, New(), tag(long+":"+long, "xmlns:"+long, long, long+":x", long), binds(long, long), open(long, long, long, "x", long))
	var l []api.Bind
	x := tag("p0:a")
	want := open("0", "a")
	for i := range 2000 {
		n := strconv.Itoa(i)
		l = append(l, api.Bind{Prefix: "p" + n, Space: n})
		x.Attrs = append(x.Attrs, api.Raw{Name: "p" + n + ":x", Value: n})
		want.Attrs = append(want.Attrs, api.Attr{Name: api.Name{Space: n, Local: "x"}, Value: n})
	}
	enters(t, l, x, nil, want)
	x.Attrs = append(x.Attrs, api.Raw{Name: "p7:x"})
	fails(t, l, x, api.ErrTwice)
	for _, odd := range []string{"", ":", "a:", ":a", "a:b:c", "xmlns:", ":xmlns", "xmlns:a:b", "xmlns:1", "xml:", "1", "\x00", " ", "\xff:\xff", long + ":"} {
		for _, right := range []string{"a", "p0:a"} {
			for _, v := range []string{"", "u", xmlSpace} {
				for _, scope := range [][]api.Bind{nil, New(), l[:3], {{}, {}}, {{Prefix: odd, Space: odd}}} {
					Enter(scope, tag(odd))
					Enter(scope, tag(right, odd, v))
					Enter(scope, tag(odd, odd, v, odd, v, "xmlns", v))
					Names(scope, right, odd)
					Find(scope, odd)
				}
			}
		}
	}
}
