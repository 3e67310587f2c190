package tree

import (
	"fmt"
	"math"
	"math/rand"
	"reflect"
	"slices"
	"strconv"
	"strings"
	"testing"
	"unsafe"

	"oriel/api"
	"oriel/well"
	"oriel/word"
)

// attrs makes attributes of spaces, local names and values in turn.
func attrs(l ...string) []api.Attr {
	var list []api.Attr
	for i := 0; i < len(l); i += 3 {
		list = append(list, api.Attr{Name: api.Name{Space: l[i], Local: l[i+1]}, Value: l[i+2]})
	}
	return list
}

// opens makes the event of an element that opens.
func opens(space, local string, l ...string) api.Event {
	return api.Event{Kind: api.Open, Name: api.Name{Space: space, Local: local}, Attrs: attrs(l...)}
}

// says makes the event of a text.
func says(s string) api.Event {
	return api.Event{Kind: api.Text, Text: s}
}

// shut makes the event of an element that closes.
func shut() api.Event {
	return api.Event{Kind: api.Close}
}

// letters makes events of a text: a small letter opens an element of that name, a large one is a text, a full stop closes.
func letters(s string) []api.Event {
	var l []api.Event
	for _, r := range s {
		switch {
		case r == '.':
			l = append(l, shut())
		case 'A' <= r && r <= 'Z':
			l = append(l, says(string(r)))
		default:
			l = append(l, opens("", string(r)))
		}
	}
	return l
}

// element makes a tree of a name and children.
func element(local string, kids ...api.Tree) api.Tree {
	return api.Tree{Name: api.Name{Local: local}, Kids: kids}
}

// text makes the tree of a text.
func text(s string) api.Tree {
	return api.Tree{IsText: true, Text: s}
}

// many makes so many attributes, of names of their own.
func many(n int) []api.Attr {
	var l []api.Attr
	for i := range n {
		l = append(l, api.Attr{Name: api.Name{Space: "u", Local: "x" + strconv.Itoa(i)}, Value: strconv.Itoa(i)})
	}
	return l
}

// deep is so many elements within each other.
func deep(n int) api.Tree {
	t := element("a")
	for range n - 1 {
		t = element("a", t)
	}
	return t
}

// deepEvents is the events of so many elements within each other.
func deepEvents(n int) []api.Event {
	return slices.Concat(slices.Repeat(letters("a"), n), slices.Repeat(letters("."), n))
}

// same tells whether two trees are alike, also in what their kind doesn't have; nil and empty lists are one.
func same(a, b api.Tree) bool {
	return a.IsText == b.IsText && a.Text == b.Text && a.Name == b.Name && slices.Equal(a.Attrs, b.Attrs) && slices.EqualFunc(a.Kids, b.Kids, same)
}

// copied is a tree with lists of its own.
func copied(t api.Tree) api.Tree {
	t.Attrs, t.Kids = slices.Clone(t.Attrs), slices.Clone(t.Kids)
	for i := range t.Kids {
		t.Kids[i] = copied(t.Kids[i])
	}
	return t
}

// copiedEvents is a list of events with lists of attributes of its own.
func copiedEvents(l []api.Event) []api.Event {
	l = slices.Clone(l)
	for i := range l {
		l[i].Attrs = slices.Clone(l[i].Attrs)
	}
	return l
}

// nodesOf is how many Opens and Texts there are.
func nodesOf(l []api.Event) int {
	n := 0
	for _, e := range l {
		if e.Kind != api.Close {
			n++
		}
	}
	return n
}

// show is the start of how something is printed.
func show(x any) string {
	return fmt.Sprintf("%.300q", fmt.Sprint(x))
}

// answers holds what is answered of a document and its tree, each of the other.
func answers(t *testing.T, l []api.Event, want api.Tree) {
	t.Helper()
	if got, ok := Of(l); !ok || !same(got, want) {
		t.Errorf("Of %s: %s, %t", show(l), show(got), ok)
	}
	if got := Word(want); !slices.EqualFunc(got, l, word.Same) {
		t.Errorf("Word of %s: %s", show(want), show(got))
	}
	if !Right(want) {
		t.Errorf("%s is right", show(want))
	}
	if got := Count(want); got != nodesOf(l) {
		t.Errorf("Count of %s: %d", show(want), got)
	}
}

// refused holds what is answered of rows that are no documents.
func refused(t *testing.T, l []api.Event) {
	t.Helper()
	if got, ok := Of(l); ok || !reflect.DeepEqual(got, api.Tree{}) {
		t.Errorf("Of %s: %s, %t", show(l), show(got), ok)
	}
}

// spells holds the events of a tree, whether it's right, and how many nodes it has.
func spells(t *testing.T, x api.Tree, right bool, count int, want ...api.Event) {
	t.Helper()
	if got := Word(x); !slices.EqualFunc(got, want, word.Same) {
		t.Errorf("Word of %s: %s", show(x), show(got))
	}
	if Right(x) != right {
		t.Errorf("Right of %s: not %t", show(x), right)
	}
	if got := Count(x); got != count {
		t.Errorf("Count of %s: %d, not %d", show(x), got, count)
	}
}

// P10.1, P10.2: the chapter's example.
func TestExample(t *testing.T) {
	l := []api.Event{opens("", "a"), says("x"), shut()}
	answers(t, l, element("a", text("x")))
	x, _ := Of(l)
	if Count(x) != 2 || !slices.Equal(Make(x).Parent, []int{-1, 0}) {
		t.Error(Count(x), Make(x))
	}
}

// P10.1, P10.3: documents and their trees, written out one by one.
func TestDocuments(t *testing.T) {
	for _, x := range []struct {
		s    string
		want api.Tree
	}{
		{"a.", element("a")},
		{"aX.", element("a", text("X"))},
		{"ab..", element("a", element("b"))},
		{"ab.c..", element("a", element("b"), element("c"))},
		{"abc...", element("a", element("b", element("c")))},
		{"abX..", element("a", element("b", text("X")))},
		{"aXb..", element("a", text("X"), element("b"))},
		{"ab.X.", element("a", element("b"), text("X"))},
		{"aXb.X.", element("a", text("X"), element("b"), text("X"))},
		{"aXbY.Z.", element("a", text("X"), element("b", text("Y")), text("Z"))},
		{"abX.X.", element("a", element("b", text("X")), text("X"))},
		{"aa.a.a..", element("a", element("a"), element("a"), element("a"))},
		{"abc..d..", element("a", element("b", element("c")), element("d"))},
		{"abXcY.Z.de..T.", element("a", element("b", text("X"), element("c", text("Y")), text("Z")), element("d", element("e")), text("T"))},
	} {
		answers(t, letters(x.s), x.want)
	}
}

// P10.1, P10.3: spaces, attributes (in their order, up to MaxAttrs) and texts come over whole.
func TestFullEvents(t *testing.T) {
	all := opens("u", "b")
	all.Attrs = many(api.MaxAttrs)
	long := strings.Repeat("t\n<&>\u00e9\U00010000", 10000)
	l := []api.Event{
		opens("", "a", "", "y", "2", "", "x", "1", api.XmlSpace, "x", ""), says(" \t\r\n"), all, says(long), shut(),
		opens(api.XmlSpace, "\u00e9", "u", "x", "<&>\"'", "v", "x", "\n"), shut(), says("]]>"), shut(),
	}
	b := api.Tree{Name: api.Name{Space: "u", Local: "b"}, Attrs: many(32), Kids: []api.Tree{text(long)}}
	e := api.Tree{Name: api.Name{Space: api.XmlSpace, Local: "\u00e9"}, Attrs: attrs("u", "x", "<&>\"'", "v", "x", "\n")}
	a := element("a", text(" \t\r\n"), b, e, text("]]>"))
	a.Attrs = attrs("", "y", "2", "", "x", "1", api.XmlSpace, "x", "")
	answers(t, l, a)
	l[2].Attrs = many(api.MaxAttrs + 1)
	refused(t, l)
	a.Kids[1].Attrs = many(api.MaxAttrs + 1)
	spells(t, a, false, 6, l...)
}

// P10.1: rows of right events that are no documents.
func TestNoDocuments(t *testing.T) {
	refused(t, nil)
	refused(t, []api.Event{})
	for _, s := range []string{
		"a", "aX", "ab", "ab.", "abX", "abX.", "abc..", "aXb.Y", // something is open
		"a.b.", "a.a.", "a.X", "a.b", "a.Xb.", "aX.Y", "ab..c.", "ab..X", // two roots, or a text beside one
		"X", "XY", "Xa.", "X.", "Xa", ".", "..", ".a.", ".aX.", "a..", "ab...", // a Text or a Close first, or one Close too many
		"aXY.", "aXX.", "abXY..", "ab.XY.", "aXYb..", // two texts side by side
	} {
		refused(t, letters(s))
	}
}

// P10.1: each beginning of a document that isn't the whole is none.
func TestCutDocuments(t *testing.T) {
	for _, s := range []string{"a.", "aX.", "ab.X.", "abXcY.Z.de..T."} {
		l := letters(s)
		for n := range l {
			refused(t, l[:n])
			refused(t, l[n+1:])
		}
	}
}

// wrongEvents are some that aren't right, of each kind.
func wrongEvents() []api.Event {
	withText, withName, withAttr := opens("", "a"), says("x"), says("x")
	withText.Text, withName.Name, withAttr.Attrs = "x", api.Name{Local: "a"}, many(1)
	closeName, closeText, closeAttr := shut(), shut(), shut()
	closeName.Name, closeText.Text, closeAttr.Attrs = api.Name{Local: "a"}, "x", many(1)
	tooMany := opens("", "a")
	tooMany.Attrs = many(33)
	return []api.Event{
		{}, {Kind: 4}, {Kind: -1}, {Kind: math.MaxInt}, {Kind: math.MinInt, Text: "x"}, {Name: api.Name{Local: "a"}},
		opens("", ""), opens("", "1"), opens("", "a:b"), opens("", "\xff"), opens("\x00", "a"), opens("\xff", "a"), opens(api.XmlnsSpace, "a"),
		opens("", "a", "", "", "1"), opens("", "a", "", "x", "\x00"), opens("", "a", "", "x", "1", "", "x", "2"), opens("", "a", api.XmlnsSpace, "x", "1"),
		says(""), says("\x00"), says("\xff"), says("x\ufffe"),
		withText, withName, withAttr, closeName, closeText, closeAttr, tooMany,
	}
}

// P10.1: a wrong event at each place makes of a document none.
func TestWrongEvents(t *testing.T) {
	for _, s := range []string{"", "a.", "aX.", "abX.Yc.."} {
		l := letters(s)
		for _, e := range wrongEvents() {
			for at := range len(l) + 1 {
				refused(t, slices.Insert(slices.Clone(l), at, e))
				if at < len(l) {
					in := slices.Clone(l)
					in[at] = e
					refused(t, in)
				}
			}
		}
	}
}

// P10.1, P10.3: at most MaxDepth are open within each other; how many there are side by side doesn't count.
func TestMaxDepth(t *testing.T) {
	if api.MaxDepth != 64 {
		t.Fatal("the limit is another one")
	}
	for n := 1; n <= 64; n++ {
		answers(t, deepEvents(n), deep(n))
	}
	for _, n := range []int{65, 66, 100, 1000} {
		refused(t, deepEvents(n))
		spells(t, deep(n), false, n, deepEvents(n)...)
	}
	// A text within the innermost one is no element; an element there is one too many.
	in := func(s string) []api.Event { return slices.Insert(deepEvents(64), 64, letters(s)...) }
	within := func(x api.Tree) api.Tree {
		x = element("a", x)
		for range 63 {
			x = element("a", x)
		}
		return x
	}
	answers(t, in("X"), within(text("X")))
	refused(t, in("b."))
	spells(t, within(element("b")), false, 65, in("b.")...)
	wide := element("a", slices.Repeat([]api.Tree{element("b", text("X"))}, 200)...)
	answers(t, slices.Concat(letters("a"), slices.Repeat(letters("bX."), 200), letters(".")), wide)
	// The deepest place is a later one.
	late := element("a", element("b"), deep(63))
	answers(t, slices.Concat(letters("ab."), deepEvents(63), letters(".")), late)
	spells(t, element("a", element("b"), deep(64)), false, 66, slices.Concat(letters("ab."), deepEvents(64), letters("."))...)
}

// P10.1: of a tree made by hand what its kind doesn't have is no event, and no node.
func TestBesides(t *testing.T) {
	within := func(x api.Tree) api.Tree { return element("r", text("y"), element("b"), x, element("c")) }
	around := func(l ...api.Event) []api.Event {
		return slices.Concat(letters("r"), []api.Event{says("y")}, letters("b."), l, letters("c.."))
	}
	named, attributed, filled, all := text("x"), text("x"), text("x"), text("x")
	named.Name = api.Name{Space: "u", Local: "a"}
	attributed.Attrs = attrs("", "x", "1")
	filled.Kids = []api.Tree{element("k", text("z")), text("z")}
	all.Name, all.Attrs, all.Kids = api.Name{Local: "1"}, attrs("", "", "\xff"), []api.Tree{{}, text(""), deep(100)}
	for _, x := range []api.Tree{named, attributed, filled, all} {
		spells(t, x, false, 1, says("x"))
		spells(t, within(x), true, 5, around(says("x"))...)
	}
	for _, s := range []string{"x", " ", "\x00", "\xff"} {
		x := element("a", element("k"))
		x.Text = s
		spells(t, x, true, 2, letters("ak..")...)
		spells(t, within(x), true, 6, around(letters("ak..")...)...)
	}
}

// P10.1: trees whose events are no document, for each event that can come of a tree: at the root, and deeper.
func TestWrongTrees(t *testing.T) {
	tooMany, twice, nameless, badValue, own := element("a"), element("a"), element("a"), element("a"), element("a")
	tooMany.Attrs = many(33)
	twice.Attrs = attrs("u", "x", "1", "", "y", "1", "u", "x", "2")
	nameless.Attrs = attrs("", "", "1")
	badValue.Attrs = attrs("", "x", "\x00")
	own.Attrs = attrs(api.XmlnsSpace, "x", "1")
	wrong := []api.Tree{tooMany, twice, nameless, badValue, own, {}, {Kids: []api.Tree{element("b")}}}
	for _, s := range []string{"", "1", "a:b", " ", "a ", "\xff", "\x00"} {
		wrong = append(wrong, element(s), element(s, element("a"), text("x")))
	}
	for _, s := range []string{"\x00", "\xff", api.XmlnsSpace} {
		wrong = append(wrong, api.Tree{Name: api.Name{Space: s, Local: "a"}})
	}
	for _, x := range wrong {
		e := api.Event{Kind: api.Open, Name: x.Name, Attrs: x.Attrs}
		l := slices.Concat([]api.Event{e}, Word(element("r", x.Kids...))[1:])
		spells(t, x, false, 1+nodesOf(l[1:]), l...)
		spells(t, element("r", text("t"), element("s", x), text("t")), false, 4+nodesOf(l), slices.Concat(letters("r"), []api.Event{says("t")}, letters("s"), l, letters("."), []api.Event{says("t"), shut()})...)
	}
	for _, s := range []string{"", "\x00", "\xff", "x\ufffe", "\xe2\x82"} {
		spells(t, text(s), false, 1, says(s))
		spells(t, element("r", text(s)), false, 2, opens("", "r"), says(s), shut())
		spells(t, element("r", element("b", text(s))), false, 3, opens("", "r"), opens("", "b"), says(s), shut(), shut())
	}
}

// P10.1: two texts side by side are wrong at each place of a list of children, but with an element between.
func TestTextsApart(t *testing.T) {
	for n := range 6 {
		var kids []api.Tree
		for i := range n {
			kids = append(kids, text("x"), element("b"))
			twice := slices.Insert(slices.Clone(kids), 2*i, text("y"))
			if Right(element("a", twice...)) || Right(element("r", element("a", twice...))) {
				t.Errorf("%s isn't right", show(twice))
			}
		}
		if !Right(element("a", kids...)) || !Right(element("a", append(kids, text("x"))...)) {
			t.Errorf("%s is right", show(kids))
		}
	}
	spells(t, element("a", text("x"), text("y")), false, 3, opens("", "a"), says("x"), says("y"), shut())
	spells(t, element("a", text("x"), text("")), false, 3, opens("", "a"), says("x"), says(""), shut())
	spells(t, element("a", text("x"), element("b", text("x")), text("x")), true, 5, opens("", "a"), says("x"), opens("", "b"), says("x"), shut(), says("x"), shut())
}

// P10.1: a text alone is no element, right as it may be within one.
func TestTextAlone(t *testing.T) {
	for _, s := range []string{"x", " ", "\u00e9", "<a/>"} {
		spells(t, text(s), false, 1, says(s))
		spells(t, element("a", text(s)), true, 2, opens("", "a"), says(s), shut())
		refused(t, Word(text(s)))
	}
	// What a text holds of an element makes none of it.
	spells(t, api.Tree{IsText: true, Name: api.Name{Local: "a"}}, false, 1, says(""))
}

// planned holds a plan's numbers, and that At answers its trees.
func planned(t *testing.T, x api.Tree, want Plan) {
	t.Helper()
	got := Make(x)
	if !slices.Equal(got.Parent, want.Parent) || !slices.Equal(got.First, want.First) || !slices.Equal(got.Next, want.Next) || !slices.Equal(got.Size, want.Size) || !slices.EqualFunc(got.Tree, want.Tree, same) {
		t.Errorf("Make of %s:\n%s, not\n%s", show(x), show(got), show(want))
	}
	for n, tree := range want.Tree {
		if at, ok := got.At(n); !ok || !same(at, tree) {
			t.Errorf("At(%d) of %s: %s, %t", n, show(x), show(at), ok)
		}
	}
	none(t, got, -1, len(want.Tree), len(want.Tree)+1, -len(want.Tree), math.MaxInt, math.MinInt, 1<<32)
}

// none holds that a plan has no such nodes.
func none(t *testing.T, p Plan, l ...int) {
	t.Helper()
	for _, n := range l {
		if at, ok := p.At(n); ok || !reflect.DeepEqual(at, api.Tree{}) {
			t.Errorf("At(%d) of %s: %s, %t", n, show(p), show(at), ok)
		}
	}
}

// P10.2: the plans of a root alone, and of a text alone.
func TestMakeOne(t *testing.T) {
	root := api.Tree{Name: api.Name{Space: "u", Local: "a"}, Attrs: many(3)}
	empty := element("a")
	empty.Kids = []api.Tree{}
	wordless := text("x")
	wordless.Name, wordless.Attrs, wordless.Kids = api.Name{Local: "a"}, many(2), []api.Tree{element("b"), text("y")}
	for _, x := range []api.Tree{root, empty, text("x"), text(""), wordless, {}} {
		planned(t, x, Plan{Parent: []int{-1}, First: []int{-1}, Next: []int{-1}, Size: []int{1}, Tree: []api.Tree{x}})
	}
}

// P10.2: plans with siblings at several depths, written out.
func TestMake(t *testing.T) {
	c, d := element("c", text("y")), element("d")
	b := element("b", text("x"), c, d)
	e, f := element("e"), element("f", text("z"))
	x := element("a", b, text("t"), e, f)
	x.Attrs, f.Text = many(2), ""
	planned(t, x, Plan{
		Parent: []int{-1, 0, 1, 1, 3, 1, 0, 0, 0, 8},
		First:  []int{1, 2, -1, 4, -1, -1, -1, -1, 9, -1},
		Next:   []int{-1, 6, 3, 5, -1, -1, 7, 8, -1, -1},
		Size:   []int{10, 5, 1, 2, 1, 1, 1, 1, 2, 1},
		Tree:   []api.Tree{x, b, text("x"), c, text("y"), d, text("t"), e, f, text("z")},
	})
	planned(t, element("a", d, d, d), Plan{
		Parent: []int{-1, 0, 0, 0}, First: []int{1, -1, -1, -1}, Next: []int{-1, 2, 3, -1}, Size: []int{4, 1, 1, 1},
		Tree: []api.Tree{element("a", d, d, d), d, d, d},
	})
	planned(t, deep(4), Plan{
		Parent: []int{-1, 0, 1, 2}, First: []int{1, 2, 3, -1}, Next: []int{-1, -1, -1, -1}, Size: []int{4, 3, 2, 1},
		Tree: []api.Tree{deep(4), deep(3), deep(2), deep(1)},
	})
}

// P10.2: children that a text holds are no nodes; those of its siblings are numbered as if there were none.
func TestMakeBesides(t *testing.T) {
	odd := text("x")
	odd.Name, odd.Kids = api.Name{Local: "a"}, []api.Tree{element("k", element("l")), text("z")}
	b := element("b", element("c"))
	b.Text = "q"
	x := element("a", odd, b, odd)
	planned(t, x, Plan{
		Parent: []int{-1, 0, 0, 2, 0}, First: []int{1, -1, 3, -1, -1}, Next: []int{-1, 2, 4, -1, -1}, Size: []int{5, 1, 2, 1, 1},
		Tree: []api.Tree{x, odd, b, element("c"), odd},
	})
}

// P10.2: At goes by the plan's trees, of a plan made by hand too.
func TestAt(t *testing.T) {
	none(t, Plan{}, -1, 0, 1, 2, math.MaxInt, math.MinInt)
	none(t, Plan{Parent: []int{-1}, First: []int{-1}, Next: []int{-1}, Size: []int{1}}, -1, 0, 1)
	p := Plan{Tree: []api.Tree{element("a"), text("x")}}
	none(t, p, -2, -1, 2, 3)
	for n := range p.Tree {
		if got, ok := p.At(n); !ok || !same(got, p.Tree[n]) {
			t.Error(n, got, ok)
		}
	}
}

// treeByWords is the tree of a piece of a document, by the chapter's words tried out anew: children stand where just the element itself is open.
func treeByWords(l []api.Event) api.Tree {
	if l[0].Kind == api.Text {
		return text(l[0].Text)
	}
	t := api.Tree{Name: l[0].Name, Attrs: l[0].Attrs}
	open, from := 0, 1
	for at := 1; at < len(l)-1; at++ {
		open += map[int]int{api.Open: 1, api.Close: -1}[l[at].Kind]
		if open == 0 {
			t.Kids = append(t.Kids, treeByWords(l[from:at+1]))
			from = at + 1
		}
	}
	return t
}

// planByWords is the plan of a document's tree, by the chapter's words tried out anew: each node's elements that are open around it, by the places of its events.
func planByWords(l []api.Event) Plan {
	var p Plan
	var around [][]int // of each node, the nodes that are open where it stands, and itself
	var open []int
	for at, e := range l {
		if e.Kind == api.Close {
			open = open[:len(open)-1]
			continue
		}
		n := len(around)
		around = append(around, append(slices.Clone(open), n))
		end := at
		if e.Kind == api.Open {
			open = append(open, n)
			for depth := 1; depth > 0; {
				end++
				depth += map[int]int{api.Open: 1, api.Close: -1}[l[end].Kind]
			}
		}
		p.Tree = append(p.Tree, treeByWords(l[at:end+1]))
	}
	parent := func(n int) int {
		if len(around[n]) == 1 {
			return -1
		}
		return around[n][len(around[n])-2]
	}
	for n := range around {
		first, next, size := -1, -1, 0
		for m := range around {
			if first < 0 && parent(m) == n {
				first = m
			}
			if next < 0 && m > n && parent(m) == parent(n) {
				next = m
			}
			if slices.Contains(around[m], n) {
				size++
			}
		}
		p.Parent, p.First = append(p.Parent, parent(n)), append(p.First, first)
		p.Next, p.Size = append(p.Next, next), append(p.Size, size)
	}
	return p
}

// byWords holds all answers of a row against the words, and tells whether it's a document.
func byWords(t *testing.T, l []api.Event) bool {
	t.Helper()
	if !word.Whole(l) {
		refused(t, l)
		return false
	}
	x := treeByWords(l)
	answers(t, l, x)
	planned(t, x, planByWords(l))
	return true
}

// P10.1 to P10.3: all rows of up to seven of some events, against the words.
func TestShortRows(t *testing.T) {
	some := []api.Event{opens("", "a"), opens("u", "b", "", "x", "1"), says("x"), shut(), says("")}
	documents := 0
	var row func(l []api.Event)
	row = func(l []api.Event) {
		if byWords(t, l) {
			documents++
		}
		if len(l) == 7 {
			return
		}
		for _, e := range some {
			row(append(slices.Clip(l), e))
		}
	}
	row(nil)
	if documents < 100 {
		t.Error("too few documents:", documents)
	}
}

// someTree makes a tree of some chance that is right, at most so deep.
func someTree(chance *rand.Rand, levels int) api.Tree {
	t := api.Tree{Name: api.Name{Space: []string{"", "", "u", "\u00e9"}[chance.Intn(4)], Local: []string{"a", "b", "c-1", "\u00e9"}[chance.Intn(4)]}}
	for i := range chance.Intn(4) {
		t.Attrs = append(t.Attrs, api.Attr{Name: api.Name{Space: []string{"", "u"}[chance.Intn(2)], Local: "x" + strconv.Itoa(i)}, Value: []string{"", "1", "<\n"}[chance.Intn(3)]})
	}
	if levels == 1 {
		return t
	}
	for range chance.Intn(5) {
		if n := len(t.Kids); chance.Intn(3) == 0 && (n == 0 || !t.Kids[n-1].IsText) {
			t.Kids = append(t.Kids, text([]string{"x", " ", "<&>", "\u00e9"}[chance.Intn(4)]))
			continue
		}
		t.Kids = append(t.Kids, someTree(chance, 1+chance.Intn(levels-1)))
	}
	return t
}

// P10.3: Of undoes Word, and Word Of; both against the words, on trees of some chance.
func TestUndoes(t *testing.T) {
	chance := rand.New(rand.NewSource(10))
	large := 0
	for range 3000 {
		x := someTree(chance, 1+chance.Intn(12))
		l := Word(x)
		if !Right(x) {
			t.Fatalf("%s is right", show(x))
		}
		back, ok := Of(l)
		if !ok || !same(back, x) {
			t.Fatalf("%s became %s", show(x), show(back))
		}
		if again := Word(back); !slices.EqualFunc(again, l, word.Same) {
			t.Fatalf("%s became %s", show(l), show(again))
		}
		if len(l) < 400 {
			byWords(t, l)
		}
		if len(l) > 30 {
			large++
		}
	}
	if large < 300 {
		t.Error("too few large trees:", large)
	}
}

// P10.3: a document that comes in, its tree, and its events again.
func TestDocumentsThatComeIn(t *testing.T) {
	for _, s := range []string{
		"<a/>", "<a>x<!--c-->y</a>", "<?xml version='1.0'?> <a xmlns='u' x='&lt;'> <b/><![CDATA[]]>y</a> <!--c-->",
		"<p:a xmlns:p='u' p:x='1' x='1' xml:lang=''><p:b xmlns:p=\"v\"/></p:a>",
		strings.Repeat("<a>", 64) + "x" + strings.Repeat("</a>", 64),
		"<a><b x='1'>t<c/></b>u<d><e/><f/></d></a>",
	} {
		l, _, err := well.Events(s)
		if err != api.OK || !byWords(t, l) {
			t.Errorf("%.200q: %d", s, err)
		}
	}
	for _, s := range []string{"", "x", "<a>", "<a>x<b>", "<a></b>", "<a>&x;", strings.Repeat("<a>", 65)} {
		l, _, err := well.Events(s)
		if err == api.OK || byWords(t, l) {
			t.Errorf("%.200q: %d", s, err)
		}
	}
}

// spoil changes each part of a tree, and lays more behind its lists, as far as their memory goes.
func spoil(t *api.Tree) {
	for i := range t.Kids {
		spoil(&t.Kids[i])
	}
	spoilAttrs(t.Attrs)
	_ = append(t.Attrs[:cap(t.Attrs)], attrs("7", "7", "7")...)
	_ = append(t.Kids, slices.Repeat([]api.Tree{text("7")}, cap(t.Kids)-len(t.Kids))...)
	t.IsText, t.Text, t.Name = !t.IsText, "7", api.Name{Space: "7", Local: "7"}
}

// spoilAttrs changes each attribute.
func spoilAttrs(l []api.Attr) {
	for i := range l {
		l[i] = attrs("7", "7", "7")[0]
	}
	_ = append(l, slices.Repeat(attrs("7", "7", "7"), cap(l)-len(l))...)
}

// spoilEvents changes each event, and its attributes.
func spoilEvents(l []api.Event) {
	for i := range l {
		spoilAttrs(l[i].Attrs)
		l[i] = opens("7", "7", "7", "7", "7")
	}
	_ = append(l, slices.Repeat(l[:1], cap(l)-len(l))...)
}

// someDocuments are rows of events that are documents; within one of them, events share attributes.
func someDocuments() [][]api.Event {
	chance := rand.New(rand.NewSource(104))
	one, other := opens("", "a", "u", "x", "1", "", "y", "2", "", "z", "3"), opens("", "b")
	other.Attrs = one.Attrs[:2]
	l := [][]api.Event{
		letters("a."), letters("aXb.Y."), {opens("u", "a", "", "x", "1"), shut()}, {one, one, other, shut(), says("x"), shut(), other, shut(), shut()}, deepEvents(64),
	}
	for range 200 {
		l = append(l, Word(someTree(chance, 6)))
	}
	return l
}

// P10.4: what Of answered may be changed without a change of what was handed in, of other answers, or of what comes.
func TestOfNewMemory(t *testing.T) {
	for _, l := range someDocuments() {
		before := copiedEvents(l)
		want := treeByWords(before)
		got, _ := Of(l)
		more, _ := Of(l)
		spoil(&got)
		if !slices.EqualFunc(l, before, word.Same) || !same(more, want) {
			t.Fatalf("a change of %s's tree is seen elsewhere", show(before))
		}
		if again, ok := Of(l); !ok || !same(again, want) {
			t.Fatalf("%s: %s, then %s", show(before), show(want), show(again))
		}
		// The other way round: a change of what was handed in.
		spoilEvents(l)
		if !same(more, want) {
			t.Fatalf("a change of %s is seen in its tree", show(before))
		}
	}
}

// P10.4: no two lists of one answer of Of share memory: a change of one node isn't seen in another.
func TestOfListsApart(t *testing.T) {
	for _, l := range someDocuments() {
		count := nodesOf(l)
		for n := range count {
			got, _ := Of(l)
			want := copied(got)
			at, left := &got, n
			wantAt := &want
			for left > 0 {
				left--
				for k := range at.Kids {
					if size := Count(at.Kids[k]); left >= size {
						left -= size
						continue
					}
					at, wantAt = &at.Kids[k], &wantAt.Kids[k]
					break
				}
			}
			spoil(at)
			*wantAt = *at
			if !same(got, want) {
				t.Fatalf("%s: a change of node %d is seen in another", show(l), n)
			}
		}
	}
}

// P10.4: what Word answered may be changed without a change of what was handed in, of other answers, or of what comes.
func TestWordNewMemory(t *testing.T) {
	for _, l := range someDocuments() {
		x := treeByWords(l)
		want, before := copiedEvents(l), copied(x)
		got, more := Word(x), Word(x)
		for i := range got {
			spoilAttrs(got[i].Attrs)
		}
		spoilEvents(got)
		if !same(x, before) || !slices.EqualFunc(more, want, word.Same) {
			t.Fatalf("a change of %s's events is seen elsewhere", show(before))
		}
		if again := Word(x); !slices.EqualFunc(again, want, word.Same) {
			t.Fatalf("%s: %s, then %s", show(before), show(want), show(again))
		}
		// The other way round: a change of what was handed in.
		spoil(&x)
		if !slices.EqualFunc(more, want, word.Same) {
			t.Fatalf("a change of %s is seen in its events", show(before))
		}
	}
}

// P10.4: no two lists of one answer of Word share memory.
func TestWordListsApart(t *testing.T) {
	for _, l := range someDocuments() {
		for at := range l {
			got := Word(treeByWords(l))
			spoilAttrs(got[at].Attrs)
			for i := range got {
				if i != at && !word.Same(got[i], l[i]) {
					t.Fatalf("%s: a change of event %d is seen in %d", show(l), at, i)
				}
			}
		}
	}
}

// P10.4: a plan's lists are its own; but for attributes and children's lists, so are its trees.
func TestMakeNewMemory(t *testing.T) {
	for _, l := range someDocuments() {
		x := treeByWords(copiedEvents(l))
		before, want := copied(x), planByWords(l)
		got, more := Make(x), Make(x)
		lists := []*[]int{&got.Parent, &got.First, &got.Next, &got.Size}
		for i, list := range lists {
			for n := range *list {
				(*list)[n] = -7
			}
			_ = append(*list, slices.Repeat([]int{-7}, cap(*list)-len(*list))...)
			for _, other := range lists[i+1:] {
				if slices.Contains(*other, -7) {
					t.Fatal("two lists of a plan share memory")
				}
			}
		}
		for n := range got.Tree {
			got.Tree[n].IsText, got.Tree[n].Text, got.Tree[n].Name = true, "7", api.Name{Local: "7"}
			got.Tree[n].Attrs, got.Tree[n].Kids = many(1), []api.Tree{text("7")}
		}
		if !same(x, before) || !slices.EqualFunc(more.Tree, want.Tree, same) || !slices.Equal(more.Size, want.Size) {
			t.Fatalf("a change of %s's plan is seen elsewhere", show(before))
		}
		planned(t, x, want)
		// What is answered by At is no way to the plan.
		at, _ := more.At(0)
		at.IsText, at.Text, at.Name, at.Attrs, at.Kids = true, "7", api.Name{}, nil, nil
		if !slices.EqualFunc(more.Tree, want.Tree, same) {
			t.Fatal("a change of what At answered is seen in the plan")
		}
	}
}

// P10.4, rule 5: what is handed in stays, right or wrong, and each call answers the same again.
func TestHandedInStays(t *testing.T) {
	odd := text("x")
	odd.Name, odd.Attrs, odd.Kids = api.Name{Local: "a"}, many(2), []api.Tree{element("b"), {}}
	worse := element("a", odd, text("y"), api.Tree{}, deep(70))
	worse.Text, worse.Attrs = "q", append(many(2), many(33)...)
	for _, x := range []api.Tree{{}, text(""), odd, worse, element("a", worse, odd), deep(64), deep(65)} {
		before := copied(x)
		all := func() []any {
			p := Make(x)
			at, ok := p.At(1)
			return []any{Word(x), Right(x), Count(x), p, at, ok}
		}
		once, again := all(), all()
		if !reflect.DeepEqual(x, before) {
			t.Errorf("%s was changed", show(before))
		}
		if !reflect.DeepEqual(once, again) {
			t.Errorf("%s: %s, then %s", show(x), show(once), show(again))
		}
	}
	for _, l := range [][]api.Event{nil, letters("a"), letters("a.b."), letters("aXb.Y."), wrongEvents(), Word(worse), append(letters("a."), wrongEvents()...)} {
		before := copiedEvents(l)
		once, ok := Of(l)
		again, okAgain := Of(l)
		if !slices.EqualFunc(l, before, word.Same) || ok != okAgain || !same(once, again) {
			t.Errorf("%s: %s, %t, then %s, %t", show(before), show(once), ok, show(again), okAgain)
		}
	}
}

// shares tells whether two texts have bytes of memory in common.
func shares(a, b string) bool {
	if a == "" || b == "" {
		return false
	}
	x, y := uintptr(unsafe.Pointer(unsafe.StringData(a))), uintptr(unsafe.Pointer(unsafe.StringData(b)))
	return x < y+uintptr(len(b)) && y < x+uintptr(len(a))
}

// textsOf is all texts of an event.
func textsOf(e api.Event) []string {
	all := []string{e.Name.Space, e.Name.Local, e.Text}
	for _, a := range e.Attrs {
		all = append(all, a.Name.Space, a.Name.Local, a.Value)
	}
	return all
}

// P10.4: no text that Of or Word answers lies in what was handed in.
func TestNewTexts(t *testing.T) {
	whole := strings.Clone("space local key value text")
	part := func(s string) string {
		at := strings.Index(whole, s)
		return whole[at : at+len(s)]
	}
	a := opens(part("space"), part("local"), part("space"), part("key"), part("value"), "", part("local"), part("text"))
	l := []api.Event{a, says(part("text")), a, shut(), shut()}
	x := treeByWords(l)
	got, ok := Of(l)
	if !ok || !same(got, x) {
		t.Fatal(got)
	}
	var all []string
	for _, n := range Make(got).Tree {
		all = append(all, n.Text, n.Name.Space, n.Name.Local)
		all = append(all, textsOf(api.Event{Attrs: n.Attrs})...)
	}
	for _, e := range Word(x) {
		all = append(all, textsOf(e)...)
	}
	for _, s := range all {
		if shares(s, whole) {
			t.Errorf("%q is a piece of what was handed in", s)
		}
	}
}

// P1: rows and trees that are long, or deep beyond all documents, end without a panic.
func TestEnds(t *testing.T) {
	const levels = 1 << 16
	x := deep(levels)
	if Right(x) || Count(x) != levels || len(Word(x)) != 2*levels {
		t.Error("a deep tree:", Right(x), Count(x), len(Word(x)))
	}
	p := Make(x)
	if at, ok := p.At(levels - 1); !ok || len(at.Kids) != 0 || p.Parent[levels-1] != levels-2 || p.First[levels-2] != levels-1 || p.Size[0] != levels || p.Next[levels-1] != -1 {
		t.Error("the plan of a deep tree:", ok)
	}
	refused(t, deepEvents(levels))
	refused(t, slices.Repeat(letters("a"), levels))
	refused(t, slices.Repeat(letters("."), levels))
	refused(t, slices.Repeat(letters("X"), levels))
	const many = 300000
	wide := element("a", slices.Repeat([]api.Tree{element("b"), text("x")}, many)...)
	l := slices.Concat(letters("a"), slices.Repeat([]api.Event{opens("", "b"), shut(), says("x")}, many), letters("."))
	answers(t, l, wide)
	p = Make(wide)
	if len(p.Tree) != 2*many+1 || p.Parent[2*many] != 0 || p.Next[2*many] != -1 || p.Next[2*many-1] != 2*many || p.Size[0] != 2*many+1 {
		t.Error("the plan of a wide tree")
	}
}
