package word

import (
	"fmt"
	"math"
	"math/rand"
	"reflect"
	"slices"
	"strconv"
	"strings"
	"testing"
	"unicode/utf8"

	"oriel/api"
	"oriel/char"
	"oriel/name"
	"oriel/well"
)

// opens makes an event of a space and local name, and of attributes' spaces, local names and values in turn.
func opens(space, local string, l ...string) api.Event {
	e := api.Event{Kind: api.Open, Name: api.Name{Space: space, Local: local}}
	for i := 0; i < len(l); i += 3 {
		e.Attrs = append(e.Attrs, api.Attr{Name: api.Name{Space: l[i], Local: l[i+1]}, Value: l[i+2]})
	}
	return e
}

// text makes the event of a text.
func text(s string) api.Event {
	return api.Event{Kind: api.Text, Text: s}
}

// shut makes the event of an element that closes.
func shut() api.Event {
	return api.Event{Kind: api.Close}
}

// letters makes events of a text: a small letter opens an element of that name, a large one is a text, a full stop closes.
func letters(s string) []api.Event {
	var l []api.Event
	for _, r := range s {
		switch {
		case r == '.':
			l = append(l, shut())
		case 'A' <= r && r <= 'Z':
			l = append(l, text(string(r)))
		default:
			l = append(l, opens("", string(r)))
		}
	}
	return l
}

// many makes an event of so many attributes, of names of their own.
func many(n int) api.Event {
	e := opens("", "a")
	for i := range n {
		e.Attrs = append(e.Attrs, api.Attr{Name: api.Name{Local: "x" + strconv.Itoa(i)}})
	}
	return e
}

// copied is a list of events, with lists of attributes of its own.
func copied(l []api.Event) []api.Event {
	l = slices.Clone(l)
	for i := range l {
		l[i].Attrs = slices.Clone(l[i].Attrs)
	}
	return l
}

// right holds that an event is right.
func right(t *testing.T, l ...api.Event) {
	t.Helper()
	for _, e := range l {
		if !Right(e) {
			t.Errorf("%.300q is right", fmt.Sprint(e))
		}
	}
}

// wrong holds that an event isn't right.
func wrong(t *testing.T, l ...api.Event) {
	t.Helper()
	for _, e := range l {
		if Right(e) {
			t.Errorf("%.300q isn't right", fmt.Sprint(e))
		}
	}
}

// notUtf are texts with bytes that are no UTF-8.
var notUtf = []string{
	"\xff", "\x80", "\xc3", "\xc0\x80", "\xe2\x82", "\xed\xa0\x80", "\xf4\x90\x80\x80", "\xf0\x9f\x98", "\xff\xfe",
	"a\xff", "\xffa", "a\xc3a", "\u00e9\xa9", "\xef\xbf\xbd\xff", "a\xe2\x82",
}

// notChars are texts with a rune that may not stand in a text.
var notChars = []string{"\x00", "\x08", "\x0b", "\x0c", "\x1f", "\ufffe", "\uffff", "a\x00", "\x00a", "a\x01b", "\u00e9\ufffe\u00e9"}

// notPlain are texts that are no plain names.
var notPlain = []string{
	"", ":", ":a", "a:", "a:b", "a:b:c", "1", "-a", ".a", "1a", "\u00b7", "\u0300a", " ", " a", "a ", "a b", "\na", "a\n",
	"<", "a<", "a=", "a/", "a\u00d7", "\u037ea", "\U000f0000", "{u}a", "*", "a*",
}

// P9.1: Opens that are right, by their names.
func TestRightNames(t *testing.T) {
	for _, local := range []string{"a", "A", "_", "a1", "a-.1", "xml", "xmlns", "\u00e9", "a\u00b7", "a\u0300", "\U00010000", "\ufffd", strings.Repeat("a", 70000)} {
		for _, space := range []string{
			"", "u", " ", "\t\n\r", ":", "a:b", "<&>\"'", "{}", "\u00d7", "\ufffd", "\U0010ffff", "\x7f", "1",
			api.XmlSpace, api.XmlnsSpace + " ", " " + api.XmlnsSpace, api.XmlnsSpace[:len(api.XmlnsSpace)-1], strings.ToUpper(api.XmlnsSpace),
			strings.Repeat("u", 70000),
		} {
			right(t, opens(space, local), opens("", "a", space, local, ""), opens("", "a", "", "b", "", space, local, "1"))
		}
	}
}

// P9.1: a name that is none, of an element, and of an attribute at each place.
func TestWrongNames(t *testing.T) {
	var names []api.Name
	for _, s := range slices.Concat(notPlain, notChars, notUtf) {
		names = append(names, api.Name{Local: s}, api.Name{Space: "u", Local: s}, api.Name{Space: s, Local: s})
	}
	for _, s := range slices.Concat(notChars, notUtf, []string{api.XmlnsSpace}) {
		names = append(names, api.Name{Space: s, Local: "a"}, api.Name{Space: s, Local: "xmlns"}, api.Name{Space: s})
	}
	for _, n := range names {
		e := opens("", "a")
		e.Name = n
		wrong(t, e)
		e.Attrs = opens("", "a", "", "b", "1").Attrs
		wrong(t, e)
		for i := range api.MaxAttrs {
			e = many(api.MaxAttrs)
			e.Attrs[i].Name = n
			wrong(t, e)
		}
		e = opens("", "a")
		e.Attrs = []api.Attr{{Name: n, Value: "1"}}
		wrong(t, e)
	}
}

// P9.1: an attribute's value is any text all of whose runes may stand in one, also the empty one.
func TestValues(t *testing.T) {
	for _, s := range []string{"", " ", "1", "<&>\"'", "\t\n\r", ":", "\u00d7", "\ufffd", "\U0010ffff", api.XmlnsSpace, strings.Repeat("v", 70000)} {
		right(t, opens("", "a", "", "b", s), opens("u", "a", "", "b", "1", "v", "b", s))
	}
	for _, s := range slices.Concat(notChars, notUtf) {
		wrong(t, opens("", "a", "", "b", s), opens("", "a", "u", "b", s))
		for i := range api.MaxAttrs {
			e := many(api.MaxAttrs)
			e.Attrs[i].Value = s
			wrong(t, e)
		}
	}
}

// P9.1: at most MaxAttrs attributes.
func TestMaxAttrs(t *testing.T) {
	if api.MaxAttrs != 32 {
		t.Fatal("the limit is another one")
	}
	for n := range 33 {
		right(t, many(n))
	}
	for _, n := range []int{33, 34, 64, 1000} {
		wrong(t, many(n))
	}
	none := opens("", "a")
	none.Attrs = []api.Attr{}
	right(t, none)
}

// P9.1: no two attributes of one name, at whatever places, and whatever their values.
func TestTwice(t *testing.T) {
	for _, n := range []api.Name{{Local: "y"}, {Space: "u", Local: "y"}, {Space: api.XmlSpace, Local: "lang"}} {
		for i := range api.MaxAttrs {
			for k := range i {
				e := many(api.MaxAttrs)
				e.Attrs[i].Name, e.Attrs[k].Name = n, n
				wrong(t, e)
				e.Attrs[i].Value = "1"
				wrong(t, e)
				e.Attrs[k].Name.Local += "y"
				right(t, e)
				e.Attrs[k].Name = api.Name{Space: n.Space + "v", Local: n.Local}
				right(t, e)
			}
		}
	}
	wrong(t,
		opens("", "a", "", "x", "1", "", "x", "1"),
		opens("", "a", "", "x", "1", "", "x", "2"),
		opens("", "a", "u", "x", "1", "", "x", "2", "u", "x", "3"),
		opens("", "a", "", "x", "", "", "x", "", "", "x", ""),
	)
	right(t,
		opens("", "a", "", "x", "1", "u", "x", "1", "v", "x", "1"),
		opens("", "a", "", "x", "1", "", "X", "1"),
		opens("u", "x", "u", "x", "1", "", "a", "1"),
		// Space and Local side by side are one text, and two names.
		opens("", "a", "u", "vx", "1", "uv", "x", "1", "", "uvx", "1"),
	)
}

// P9.1: an Open has no Text.
func TestOpenWithText(t *testing.T) {
	for _, s := range slices.Concat([]string{"x", " ", "a", "\ufffd"}, notChars, notUtf) {
		for _, e := range []api.Event{opens("", "a"), opens("u", "a", "", "b", "1"), many(api.MaxAttrs)} {
			right(t, e)
			e.Text = s
			wrong(t, e)
		}
	}
}

// besides are a name, and attributes, that a Text and a Close have not; right and wrong ones.
func besides() []api.Event {
	return []api.Event{
		opens("", "a"), opens("u", "a"), opens("u", ""), opens(api.XmlnsSpace, ""), opens("", "1"), opens("", "\xff"),
		opens("", "", "", "b", "1"), opens("", "", "", "", ""), opens("", "a", "", "b", "1"), opens("u", "", "", "b", "1", "", "c", ""),
	}
}

// P9.1: a Text has a Text that isn't empty, and nothing else.
func TestRightTexts(t *testing.T) {
	for _, s := range []string{"x", " ", "\t", "\n", "\r", "<&>\"'", "]]>", "--", ":", "\u00d7", "\ufffd", "\U0010ffff", strings.Repeat("x", 70000)} {
		right(t, text(s), api.Event{Kind: api.Text, Text: s, Attrs: []api.Attr{}})
		for _, e := range besides() {
			e.Kind, e.Text = api.Text, s
			wrong(t, e)
		}
	}
	for _, s := range slices.Concat([]string{""}, notChars, notUtf) {
		wrong(t, text(s))
		for _, e := range besides() {
			e.Kind, e.Text = api.Text, s
			wrong(t, e)
		}
	}
}

// P9.1: a Close has nothing else.
func TestRightCloses(t *testing.T) {
	right(t, shut(), api.Event{Kind: api.Close, Attrs: []api.Attr{}})
	for _, s := range slices.Concat([]string{"x", " ", "a"}, notChars, notUtf) {
		wrong(t, api.Event{Kind: api.Close, Text: s})
	}
	for _, e := range besides() {
		e.Kind = api.Close
		wrong(t, e)
		e.Text = "x"
		wrong(t, e)
	}
}

// noKinds are kinds that there aren't.
var noKinds = []int{0, 4, 5, 6, -1, -2, -3, 1 << 32, 1<<32 + 1, 256 + 1, 256 + 2, 256 + 3, math.MaxInt, math.MinInt, math.MinInt + 1}

// P9.1: of another Kind nothing is right.
func TestOtherKinds(t *testing.T) {
	for _, kind := range noKinds {
		for _, e := range append(besides(), text("x"), shut(), opens("u", "a", "", "b", "1")) {
			e.Kind = kind
			wrong(t, e)
		}
	}
}

// P9.1: every rune, at each place of an event.
func TestEveryRune(t *testing.T) {
	for r := rune(0); r <= utf8.MaxRune; r++ {
		if !utf8.ValidRune(r) {
			continue
		}
		s := string(r)
		for _, x := range []struct {
			e    api.Event
			want bool
		}{
			{text(s), char.Char(r)},
			{text("x" + s + "x"), char.Char(r)},
			{opens(s, "a"), char.Char(r)},
			{opens("", "a", "u"+s, "b", "1"), char.Char(r)},
			{opens("", "a", "", "b", "1"+s), char.Char(r)},
			{opens("", s), char.Start(r)},
			{opens("u", "a"+s), char.Part(r)},
			{opens("", "a", "", s, "1"), char.Start(r)},
			{opens("", "a", "u", "b"+s+"b", "1"), char.Part(r)},
		} {
			if Right(x.e) != x.want {
				t.Errorf("%x in %q: not %t", r, fmt.Sprint(x.e), x.want)
			}
		}
	}
}

// rightByWords is Right, by the chapter's words tried out anew, with the library's UTF-8.
func rightByWords(e api.Event) bool {
	outside := func(r rune) bool { return !char.Char(r) }
	may := func(s string) bool { return utf8.ValidString(s) && !strings.ContainsFunc(s, outside) }
	names := []api.Name{e.Name}
	for _, a := range e.Attrs {
		names = append(names, a.Name)
	}
	for i, n := range names {
		if !name.Plain(n.Local) || !may(n.Space) || !utf8.ValidString(n.Local) || n.Space == api.XmlnsSpace {
			names = nil
			break
		}
		if i > 1 && slices.Contains(names[1:i], n) {
			names = nil
			break
		}
	}
	nothing := e.Name.Space+e.Name.Local == "" && len(e.Attrs) == 0
	switch {
	case e.Kind == api.Open:
		return names != nil && len(e.Attrs) <= 32 && e.Text == "" && !slices.ContainsFunc(e.Attrs, func(a api.Attr) bool { return !may(a.Value) })
	case e.Kind == api.Text:
		return nothing && len(e.Text) > 0 && may(e.Text)
	}
	return e.Kind == api.Close && nothing && len(e.Text) == 0
}

// someEvent makes an event of some chance, about half of them right.
func someEvent(chance *rand.Rand) api.Event {
	pick := func(l ...string) string { return l[chance.Intn(len(l))] }
	anyName := func() api.Name {
		n := api.Name{Space: pick("", "", "", "u", "v", "\u00e9"), Local: pick("a", "b", "c", "\u00e9", "a-1")}
		if chance.Intn(25) == 0 {
			n = api.Name{Space: pick("", "u", "\x00", "\xff", api.XmlnsSpace, api.XmlSpace), Local: pick("a", "", "1", "a:b", "\xff", "a\xc3", "\x00")}
		}
		return n
	}
	anyText := func() string {
		s := pick("x", "y", " ", "\u00e9", "x y")
		if chance.Intn(25) == 0 {
			s = pick("", "\x00", "\ufffe", "\xff", "\xe2\x82", "x\xc3")
		}
		return s
	}
	e := api.Event{Kind: 1 + chance.Intn(3)}
	if e.Kind == api.Open || chance.Intn(25) == 0 {
		e.Name = anyName()
		for range chance.Intn(5) {
			e.Attrs = append(e.Attrs, api.Attr{Name: anyName(), Value: anyText()})
		}
	}
	if e.Kind == api.Text || chance.Intn(25) == 0 {
		e.Text = anyText()
	}
	if chance.Intn(25) == 0 {
		e.Kind = noKinds[chance.Intn(len(noKinds))]
	}
	return e
}

// P9.1: events of some chance, against the words.
func TestSomeEvents(t *testing.T) {
	chance := rand.New(rand.NewSource(9))
	count := map[bool]int{}
	for range 200000 {
		e := someEvent(chance)
		want := rightByWords(e)
		count[want]++
		if Right(e) != want {
			t.Fatalf("Right of %q: not %t", fmt.Sprint(e), want)
		}
	}
	if count[true] < 20000 || count[false] < 20000 {
		t.Error("the events are of one sort:", count)
	}
}

// answers holds what is answered of a beginning: how many elements are open, and where its nodes stand.
func answers(t *testing.T, l []api.Event, depth int, nodes ...int) {
	t.Helper()
	whole := depth == 0 && len(l) > 0
	if !Begins(l) || Whole(l) != whole || Depth(l) != depth || !slices.Equal(Nodes(l), nodes) {
		t.Errorf("%.300q: begins %t, whole %t, depth %d, nodes %v; not true, %t, %d, %v", fmt.Sprint(l), Begins(l), Whole(l), Depth(l), Nodes(l), whole, depth, nodes)
	}
	want := slices.Repeat([]api.Event{shut()}, depth)
	if len(l) == 0 {
		want = []api.Event{opens("", "a"), shut()}
	}
	if got := Closers(l); !slices.EqualFunc(got, want, Same) || !Whole(slices.Concat(l, got)) {
		t.Errorf("Closers of %.300q: %v, not %v", fmt.Sprint(l), got, want)
	}
}

// refused holds what is answered of rows that are no beginnings.
func refused(t *testing.T, l []api.Event) {
	t.Helper()
	if Begins(l) || Whole(l) || Depth(l) != 0 || len(Nodes(l)) != 0 || len(Closers(l)) != 0 {
		t.Errorf("%.300q: begins %t, whole %t, depth %d, nodes %v, closers %v", fmt.Sprint(l), Begins(l), Whole(l), Depth(l), Nodes(l), Closers(l))
	}
}

// P9.1, P9.2: the chapter's example.
func TestExample(t *testing.T) {
	answers(t, []api.Event{opens("", "a"), text("x")}, 1, 0, 1)
	if got := Closers(letters("aX")); len(got) != 1 || !Same(got[0], shut()) {
		t.Error(got)
	}
}

// P9.1, P9.2: the empty row is a beginning, and no document.
func TestEmptyRow(t *testing.T) {
	answers(t, nil, 0)
	answers(t, []api.Event{}, 0)
	got := Closers(nil)
	if len(got) != 2 || !Same(got[0], api.Event{Kind: 1, Name: api.Name{Local: "a"}}) || !Same(got[1], api.Event{Kind: 3}) || !Whole(got) {
		t.Error(got)
	}
}

// P9.1, P9.2: beginnings written out one by one.
func TestBeginnings(t *testing.T) {
	for _, x := range []struct {
		s     string
		depth int
		nodes []int
	}{
		{"a", 1, []int{0}},
		{"a.", 0, []int{0}},
		{"aX", 1, []int{0, 1}},
		{"aX.", 0, []int{0, 1}},
		{"ab", 2, []int{0, 1}},
		{"ab.", 1, []int{0, 1}},
		{"ab..", 0, []int{0, 1}},
		{"ab.X", 1, []int{0, 1, 3}},
		{"ab.b", 2, []int{0, 1, 3}},
		{"aXb.Y", 1, []int{0, 1, 2, 4}},
		{"aXb.X.", 0, []int{0, 1, 2, 4}},
		{"aXbY.Z.", 0, []int{0, 1, 2, 3, 5}},
		{"aXbY", 2, []int{0, 1, 2, 3}},
		{"aXbYcZ", 3, []int{0, 1, 2, 3, 4, 5}},
		{"abX.X", 1, []int{0, 1, 2, 4}},
		{"aa.a.a..", 0, []int{0, 1, 3, 5}},
		{"abc...", 0, []int{0, 1, 2}},
		{"abc..d", 2, []int{0, 1, 2, 5}},
	} {
		answers(t, letters(x.s), x.depth, x.nodes...)
	}
}

// P9.1, P9.2: rows that are none, of events that are right.
func TestNoBeginnings(t *testing.T) {
	for _, s := range []string{
		"X", "XX", "Xa", "Xa.", ".", "..", ".a", ".a.", ".X", "a.X", "a..", "a.a", "a.a.", "a.b.", "aX.Y", "aX..", "ab...", "ab..X", "ab..c", "ab..c.",
		"aXX", "aXY", "aXX.", "aXYZ", "abXX", "abXX..", "ab.XX", "ab.XY.", "aXb.YZ.", "abX.YZ", "aXXb", "aXXb..", "a.XX",
	} {
		refused(t, letters(s))
	}
}

// P9.1: two Texts stand side by side only with nothing between: not with an Open or a Close.
func TestTextsApart(t *testing.T) {
	answers(t, letters("aXb.X."), 0, 0, 1, 2, 4)
	answers(t, letters("aXbX"), 2, 0, 1, 2, 3)
	answers(t, letters("abX.X"), 1, 0, 1, 2, 4)
	refused(t, letters("aXX"))
	refused(t, letters("aXb.XX"))
}

// deep is so many elements that open one within the other.
func deep(n int) []api.Event {
	return letters(strings.Repeat("a", n))
}

// upTo is the places from 0 on.
func upTo(n int) []int {
	var l []int
	for i := range n {
		l = append(l, i)
	}
	return l
}

// P9.1, P9.2: at most MaxDepth are open, at every place of the row.
func TestMaxDepth(t *testing.T) {
	if api.MaxDepth != 64 {
		t.Fatal("the limit is another one")
	}
	for n := 1; n <= 64; n++ {
		answers(t, deep(n), n, upTo(n)...)
	}
	for _, n := range []int{65, 66, 128, 1000} {
		refused(t, deep(n))
		refused(t, slices.Concat(deep(n), slices.Repeat(letters("."), n)))
	}
	answers(t, slices.Concat(deep(64), letters("X")), 64, upTo(65)...)
	answers(t, slices.Concat(deep(64), letters(".b")), 64, append(upTo(64), 65)...)
	answers(t, slices.Concat(deep(64), letters("X.b.bX.Y")), 63, append(upTo(65), 66, 68, 69, 71)...)
	refused(t, slices.Concat(deep(64), letters("Xb")))
	refused(t, slices.Concat(deep(64), letters(".bb")))
	refused(t, slices.Concat(deep(64), letters("b.")))
	refused(t, slices.Concat(deep(64), letters(".b.bb.")))
	// Not how many there are counts, but how many are open.
	wide := slices.Concat(letters("a"), slices.Repeat(letters("b."), 200))
	if !Begins(wide) || Depth(wide) != 1 || len(Nodes(wide)) != 201 || len(Closers(wide)) != 1 {
		t.Error(Begins(wide), Depth(wide), len(Nodes(wide)), len(Closers(wide)))
	}
}

// wrongEvents are some that aren't right, of each kind.
func wrongEvents() []api.Event {
	l := []api.Event{
		{}, {Kind: 4}, {Kind: -1}, {Kind: 4, Name: api.Name{Local: "a"}},
		opens("", ""), opens("", "1"), opens("", "a:b"), opens("", "\xff"), opens("\x00", "a"), opens("\xff", "a"), opens(api.XmlnsSpace, "a"),
		opens("", "a", "", "", "1"), opens("", "a", api.XmlnsSpace, "b", "1"), opens("", "a", "", "b", "\x00"), opens("", "a", "", "b", "\xff"),
		opens("", "a", "", "b", "1", "", "b", "1"), many(33), {Kind: api.Open, Name: api.Name{Local: "a"}, Text: "x"},
		text(""), text("\x00"), text("x\xff"), {Kind: api.Text, Text: "x", Name: api.Name{Local: "a"}},
		{Kind: api.Close, Text: "x"}, {Kind: api.Close, Name: api.Name{Local: "a"}}, {Kind: api.Close, Name: api.Name{Space: "u"}},
	}
	for _, kind := range []int{api.Text, api.Close} {
		e := opens("", "", "", "b", "1")
		e.Kind = kind
		l = append(l, e)
	}
	l[len(l)-2].Text = "x"
	return l
}

// P9.1, P9.2: a wrong event at each place makes of a beginning none.
func TestWrongEventWithin(t *testing.T) {
	for _, s := range []string{"", "a", "aX", "aX.", "ab.X", "abX.Yc.."} {
		l := letters(s)
		for _, e := range wrongEvents() {
			for at := range len(l) + 1 {
				refused(t, slices.Insert(slices.Clone(l), at, e))
				if at < len(l) {
					in := slices.Clone(l)
					in[at] = e
					refused(t, in)
				}
			}
		}
	}
}

// P9.1, P9.2: events with spaces, attributes and long texts begin a document as bare ones do.
func TestFullEvents(t *testing.T) {
	l := []api.Event{opens("u", "a", "", "x", "1", "v", "x", "<"), text(" \n"), many(32), shut(), text(strings.Repeat("t", 70000)), opens(api.XmlSpace, "\u00e9")}
	answers(t, l, 2, 0, 1, 2, 4, 5)
	answers(t, append(l, shut(), shut()), 0, 0, 1, 2, 4, 5)
}

// beginsByWords is Begins and Depth, by the chapter's words tried out anew, condition by condition.
func beginsByWords(l []api.Event) (bool, int) {
	count := func(l []api.Event, kind int) int {
		n := 0
		for _, e := range l {
			if e.Kind == kind {
				n++
			}
		}
		return n
	}
	open := func(n int) int { return count(l[:n], api.Open) - count(l[:n], api.Close) }
	for i, e := range l {
		switch {
		case !rightByWords(e):
			return false, 0
		case i == 0 && e.Kind != api.Open:
			return false, 0
		case i > 0 && open(i) == 0:
			return false, 0
		case i > 0 && e.Kind == api.Text && l[i-1].Kind == api.Text:
			return false, 0
		case open(i+1) > 64:
			return false, 0
		}
	}
	return true, open(len(l))
}

// byWords holds all answers of a row against the words.
func byWords(t *testing.T, l []api.Event) bool {
	t.Helper()
	begins, depth := beginsByWords(l)
	if !begins {
		refused(t, l)
		return false
	}
	var nodes []int
	for i := range l {
		if l[i].Kind != api.Close {
			nodes = append(nodes, i)
		}
	}
	answers(t, l, depth, nodes...)
	return true
}

// P9.1, P9.2: all rows of up to seven of some events, against the words.
func TestShortRows(t *testing.T) {
	some := []api.Event{opens("", "a"), opens("u", "b", "", "x", "1"), text("x"), shut(), text("")}
	var row func(l []api.Event)
	row = func(l []api.Event) {
		byWords(t, l)
		if len(l) == 7 {
			return
		}
		for _, e := range some {
			row(append(slices.Clip(l), e))
		}
	}
	row(nil)
}

// longRow makes a row that is mostly a beginning; deeper as it has more that opens.
func longRow(chance *rand.Rand) []api.Event {
	var l []api.Event
	deepens := 1 + chance.Intn(4)
	open := 0
	for range chance.Intn(300) {
		var e api.Event
		switch k := chance.Intn(deepens + 3); {
		case open == 0 || k < deepens:
			e, open = opens("", "a"), open+1
		case k == deepens && l[len(l)-1].Kind != api.Text:
			e = text("x")
		default:
			e, open = shut(), open-1
		}
		if chance.Intn(100) == 0 {
			e = someEvent(chance)
		}
		l = append(l, e)
		if open == 0 && chance.Intn(30) > 0 {
			break
		}
	}
	return l
}

// P9.1, P9.2: long rows of some chance, against the words.
func TestLongRows(t *testing.T) {
	chance := rand.New(rand.NewSource(99))
	count := map[bool]int{}
	for range 3000 {
		l := longRow(chance)
		begins, _ := beginsByWords(l)
		count[begins]++
		byWords(t, l)
	}
	if count[true] < 300 || count[false] < 300 {
		t.Error("the rows are of one sort:", count)
	}
}

// P9.3: each beginning of a beginning is one, and with its Closers behind it is a document; what begins with a row that is none is none.
func TestBeginningsOfBeginnings(t *testing.T) {
	chance := rand.New(rand.NewSource(999))
	begun := 0
	for range 1000 {
		l := longRow(chance)
		ended := false
		for n := range len(l) + 1 {
			is := Begins(l[:n])
			if is && ended {
				t.Fatalf("%q begins, and a beginning of it doesn't", fmt.Sprint(l[:n]))
			}
			ended = !is
			if !is {
				continue
			}
			begun++
			closers := Closers(l[:n])
			all := slices.Concat(l[:n], closers)
			if !Whole(all) || !Begins(all) || Depth(all) != 0 || len(Closers(all)) != 0 {
				t.Fatalf("%q with its Closers: %v", fmt.Sprint(l[:n]), closers)
			}
			if n > 0 && len(closers) != Depth(l[:n]) {
				t.Fatalf("%q: %d open, %d Closers", fmt.Sprint(l[:n]), Depth(l[:n]), len(closers))
			}
			// One Close less, and it isn't whole; one more, and it is no beginning.
			if len(closers) > 0 && Whole(all[:len(all)-1]) || Begins(append(all, shut())) {
				t.Fatalf("%q with other Closers", fmt.Sprint(l[:n]))
			}
		}
	}
	if begun < 10000 {
		t.Error("too few beginnings:", begun)
	}
}

// P9.1, P9.3: the events of what comes in are a document; those ahead of an error are a beginning.
func TestEventsOfTexts(t *testing.T) {
	for _, s := range []string{
		"<a/>", "<a>x<!--c-->y</a>", "<?xml version='1.0'?> <a xmlns='u' x='&lt;'> <b/><![CDATA[]]>y</a> <!--c-->",
		"<p:a xmlns:p='u' p:x='1' x='1' xml:lang=''><p:b xmlns:p=\"v\"/></p:a>",
		strings.Repeat("<a>", 64) + "x" + strings.Repeat("</a>", 64),
	} {
		l, _, err := well.Events(s)
		if err != api.OK || !Whole(l) {
			t.Errorf("%.200q: %d, whole %t", s, err, Whole(l))
		}
	}
	for _, s := range []string{"", "x", "<a>", "<a>x<b>", "<a></b>", "<a/><b/>", "<a>&x;", strings.Repeat("<a>", 65)} {
		l, _, err := well.Events(s)
		if err == api.OK || !Begins(l) || !Whole(slices.Concat(l, Closers(l))) {
			t.Errorf("%.200q: %d, begins %t", s, err, Begins(l))
		}
	}
}

// differing are events no two of which are alike.
func differing() []api.Event {
	full := opens("u", "a", "", "x", "1", "v", "y", "2")
	full.Text = "t"
	l := []api.Event{
		{}, full,
		shut(), text("t"), text("T"), text("t "), {Kind: 1}, {Kind: 4}, {Kind: -1}, {Text: "t"}, {Kind: 1, Text: "t"}, {Kind: 3, Text: "t"},
		opens("", "a"), opens("", "A"), opens("u", "a"), opens("a", "u"), opens("", "ua"), opens("ua", ""), {Kind: 2, Name: api.Name{Local: "a"}},
		opens("", "\xff"), opens("", "\ufffd"), opens("", "\xfe"),
		opens("", "a", "", "x", "1"), opens("", "a", "", "x", "2"), opens("", "a", "", "x", ""), opens("", "a", "u", "x", "1"), opens("", "a", "", "y", "1"),
		opens("", "a", "", "", ""),
		opens("", "a", "", "", "", "", "", ""),
		opens("", "a", "", "x", "1", "", "x", "1"),
		opens("", "a", "", "x", "1", "", "y", "2"),
		opens("", "a", "", "y", "2", "", "x", "1"),
		opens("", "a", "", "x", "1", "", "y", "2", "", "z", "3"),
		opens("", "a", "", "x", "1", "", "z", "3", "", "y", "2"),
		many(32), many(33), many(34),
	}
	for i := range 10 {
		e := copied([]api.Event{full})[0]
		at := &e.Attrs[i%2]
		switch i {
		case 0, 1:
			at.Name.Space += "w"
		case 2, 3:
			at.Name.Local += "w"
		case 4, 5:
			at.Value += "w"
		case 6:
			e.Attrs[0], e.Attrs[1] = e.Attrs[1], e.Attrs[0]
		case 7:
			e.Kind = api.Text
		case 8:
			e.Name.Space = ""
		case 9:
			e.Text = ""
		}
		l = append(l, e)
	}
	return l
}

// P9.1: Same of events, right or not, is whether nothing differs.
func TestSame(t *testing.T) {
	l, other := differing(), differing()
	for i := range l {
		for k := range other {
			if Same(l[i], other[k]) != (i == k) {
				t.Errorf("Same(%q, %q): not %t", fmt.Sprint(l[i]), fmt.Sprint(other[k]), i == k)
			}
		}
	}
	// Of lists that share memory, likewise.
	e := many(4)
	longer, shorter := e, e
	longer.Attrs, shorter.Attrs = e.Attrs[:4], e.Attrs[:3]
	if !Same(e, longer) || Same(e, shorter) || Same(shorter, e) {
		t.Error("lists that share memory")
	}
}

// P9.1: nil and empty lists are one.
func TestSameOfNone(t *testing.T) {
	for _, e := range []api.Event{{}, shut(), text("x"), opens("u", "a"), {Kind: 9, Text: "x"}} {
		none, empty := e, e
		none.Attrs, empty.Attrs = nil, []api.Attr{}
		some := e
		some.Attrs = make([]api.Attr, 1)
		if !Same(none, none) || !Same(none, empty) || !Same(empty, none) || !Same(empty, empty) {
			t.Errorf("%v: nil and empty lists are one", e)
		}
		if Same(none, some) || Same(some, none) || Same(empty, some) || Same(some, empty) {
			t.Errorf("%v: an attribute of nothing is one", e)
		}
	}
}

// P9.4: what was answered may be changed without a change of what comes, or of what was handed in.
func TestNewMemory(t *testing.T) {
	for _, l := range [][]api.Event{
		nil, letters("a"), letters("aX"), letters("ab.X"), letters("abcX"), letters("aX."), letters("X"),
		{opens("u", "a", "", "x", "1"), text("x"), opens("v", "b", "w", "y", "2")}, deep(64),
	} {
		before := copied(l)
		nodes, closers := Nodes(l), Closers(l)
		wantNodes, wantClosers := slices.Clone(nodes), copied(closers)
		moreNodes, moreClosers := Nodes(l), Closers(l)
		for range 2 {
			for i := range nodes {
				nodes[i] = -7
			}
			for i := range closers {
				closers[i] = api.Event{Kind: 7, Name: api.Name{Local: "7"}, Attrs: append(closers[i].Attrs, api.Attr{Value: "7"}), Text: "7"}
			}
			// Nor may more be laid behind what was answered, so that it's seen elsewhere.
			nodes, closers = append(nodes[:cap(nodes)], 7), append(closers[:cap(closers)], opens("", "z"))
		}
		if !slices.EqualFunc(l, before, Same) {
			t.Errorf("%v was changed", before)
		}
		if !slices.Equal(moreNodes, wantNodes) || !slices.EqualFunc(moreClosers, wantClosers, Same) {
			t.Errorf("%v: two answers share memory", before)
		}
		if !slices.Equal(Nodes(l), wantNodes) || !slices.EqualFunc(Closers(l), wantClosers, Same) {
			t.Errorf("%v: what comes was changed", before)
		}
	}
}

// P9.4, rule 5: what is handed in is not changed, and each call answers the same again.
func TestHandedInStays(t *testing.T) {
	chance := rand.New(rand.NewSource(4))
	for range 2000 {
		var l []api.Event
		if chance.Intn(2) == 0 {
			l = longRow(chance)
		}
		for range chance.Intn(4) {
			l = append(l, someEvent(chance))
		}
		before := copied(l)
		all := func() []any {
			var right []bool
			for i, e := range l {
				right = append(right, Right(e), Same(e, l[len(l)-1-i]))
			}
			return []any{right, Begins(l), Whole(l), Depth(l), Nodes(l), Closers(l)}
		}
		once, again := all(), all()
		if !reflect.DeepEqual(l, before) {
			t.Fatalf("%q was changed", fmt.Sprint(before))
		}
		if !reflect.DeepEqual(once, again) {
			t.Fatalf("%q: %v, then %v", fmt.Sprint(before), once, again)
		}
	}
}

// P1: rows that are long, or of what is right nowhere, end without a panic.
func TestEnds(t *testing.T) {
	long := slices.Concat(letters("a"), slices.Repeat(letters("bX."), 100000))
	if Depth(long) != 1 || len(Nodes(long)) != 200001 || len(Closers(long)) != 1 {
		t.Error("a long row")
	}
	refused(t, slices.Repeat(letters("."), 100000))
	refused(t, slices.Repeat(letters("X"), 100000))
	refused(t, slices.Repeat(letters("a"), 100000))
	refused(t, slices.Repeat([]api.Event{{}}, 100000))
	wrong(t, many(100000), text(strings.Repeat("x", 1<<20)+"\xff"))
	if !Same(many(100000), many(100000)) || Same(many(100000), many(100001)) {
		t.Error("long lists of attributes")
	}
}
