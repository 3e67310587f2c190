package path

import (
	"fmt"
	"math/rand"
	"reflect"
	"slices"
	"strconv"
	"strings"
	"testing"
	"unicode/utf8"
	"unsafe"

	"oriel/api"
	"oriel/char"
	"oriel/name"
)

// bad is no rune's byte.
const bad = "\xff"

// step is the path to the first child.
var step = api.Path{Op: api.First}

// yes is the filter that always holds.
var yes = api.Filter{Op: api.True}

// n is a name without a space.
func n(local string) api.Name {
	return api.Name{Local: local}
}

// in is a name in a space.
func in(space, local string) api.Name {
	return api.Name{Space: space, Local: local}
}

// seq, alt, star and where make paths.
func seq(l ...api.Path) api.Path      { return api.Path{Op: api.Seq, Sub: l} }
func alt(l ...api.Path) api.Path      { return api.Path{Op: api.Alt, Sub: l} }
func star(l ...api.Path) api.Path     { return api.Path{Op: api.Star, Sub: l} }
func where(l ...api.Filter) api.Path  { return api.Path{Op: api.Where, Test: l} }
func not(l ...api.Filter) api.Filter  { return api.Filter{Op: api.Not, Sub: l} }
func and(l ...api.Filter) api.Filter  { return api.Filter{Op: api.And, Sub: l} }
func or(l ...api.Filter) api.Filter   { return api.Filter{Op: api.Or, Sub: l} }
func some(l ...api.Path) api.Filter   { return api.Filter{Op: api.Some, Way: l} }
func named(x api.Name) api.Filter     { return api.Filter{Op: api.Named, Name: x} }
func hasAttr(x api.Name) api.Filter   { return api.Filter{Op: api.HasAttr, Name: x} }
func textIs(s string) api.Filter      { return api.Filter{Op: api.TextIs, Value: s} }
func many(l ...api.Filter) []api.Path { return []api.Path{where(l...)} }
func attrIs(x api.Name, s string) api.Filter {
	return api.Filter{Op: api.AttrIs, Name: x, Value: s}
}

// show is the start of how something is printed.
func show(x any) string {
	return fmt.Sprintf("%.300s", fmt.Sprintf("%+v", x))
}

// right holds whether a path is right.
func right(t *testing.T, p api.Path, want bool) {
	t.Helper()
	if Right(p) != want {
		t.Errorf("Right of %s: %t", show(p), !want)
	}
}

// filterIs holds whether a filter is right, as it is asked for, within others and behind a path.
func filterIs(t *testing.T, f api.Filter, want bool) {
	t.Helper()
	right(t, where(f), want)
	right(t, where(not(f)), want)
	right(t, where(and(yes, f)), want)
	right(t, where(or(f, yes, yes)), want)
	right(t, seq(step, star(where(some(where(f))))), want)
}

// size holds how many parts a path has.
func size(t *testing.T, p api.Path, want int) {
	t.Helper()
	if got := Size(p); got != want {
		t.Errorf("Size of %s: %d, not %d", show(p), got, want)
	}
}

// alike holds whether two paths are alike, both ways round.
func alike(t *testing.T, a, b api.Path, want bool) {
	t.Helper()
	if Same(a, b) != want || Same(b, a) != want {
		t.Errorf("Same of %s and %s: not %t", show(a), show(b), want)
	}
}

// equal tells whether two answers of Speaks say the same; nil and empty lists are one.
func equal(a, b Words) bool {
	return slices.Equal(a.Names, b.Names) && slices.Equal(a.Attrs, b.Attrs) &&
		slices.EqualFunc(a.Values, b.Values, slices.Equal) && slices.Equal(a.Texts, b.Texts)
}

// speaks holds what paths speak of.
func speaks(t *testing.T, want Words, l ...api.Path) {
	t.Helper()
	if got := Speaks(l...); !equal(got, want) {
		t.Errorf("Speaks of %s: %s, not %s", show(l), show(got), show(want))
	}
}

// copied is a path with lists of its own.
func copied(p api.Path) api.Path {
	p.Sub, p.Test = slices.Clone(p.Sub), slices.Clone(p.Test)
	for i := range p.Sub {
		p.Sub[i] = copied(p.Sub[i])
	}
	for i := range p.Test {
		p.Test[i] = copiedFilter(p.Test[i])
	}
	return p
}

// copiedFilter is a filter with lists of its own.
func copiedFilter(f api.Filter) api.Filter {
	f.Sub, f.Way = slices.Clone(f.Sub), slices.Clone(f.Way)
	for i := range f.Sub {
		f.Sub[i] = copiedFilter(f.Sub[i])
	}
	for i := range f.Way {
		f.Way[i] = copied(f.Way[i])
	}
	return f
}

// roomy is a path, each list of which has room behind it, with something else in it; empty lists aren't nil.
func roomy(p api.Path) api.Path {
	sub, test := []api.Path{}, []api.Filter{}
	for _, x := range p.Sub {
		sub = append(sub, roomy(x))
	}
	for _, x := range p.Test {
		test = append(test, roomyFilter(x))
	}
	p.Sub = append(sub, where(named(n("room"))))[:len(sub)]
	p.Test = append(test, named(n("room")))[:len(test)]
	return p
}

// roomyFilter is roomy of a filter.
func roomyFilter(f api.Filter) api.Filter {
	sub, way := []api.Filter{}, []api.Path{}
	for _, x := range f.Sub {
		sub = append(sub, roomyFilter(x))
	}
	for _, x := range f.Way {
		way = append(way, roomy(x))
	}
	f.Sub = append(sub, named(n("room")))[:len(sub)]
	f.Way = append(way, where(named(n("room"))))[:len(way)]
	return f
}

// P12.1, P12.2: the chapter's example.
func TestExample(t *testing.T) {
	p := where(named(n("a")))
	right(t, p, true)
	size(t, p, 2)
	speaks(t, Words{Names: []api.Name{n("a")}}, p)
}

// P12.1: each kind of path with just what it asks for, with too few and too many parts, and with what it may not have.
func TestPaths(t *testing.T) {
	for _, x := range []struct{ op, sub, most, test int }{
		{op: api.Stay}, {op: api.First}, {op: api.Next},
		{op: api.Seq, sub: 2, most: 5}, {op: api.Alt, sub: 2, most: 5},
		{op: api.Star, sub: 1, most: 1},
		{op: api.Where, test: 1},
	} {
		for subs := range 5 {
			for tests := range 3 {
				p := api.Path{Op: x.op, Sub: slices.Repeat([]api.Path{step}, subs), Test: slices.Repeat([]api.Filter{yes}, tests)}
				right(t, p, subs >= x.sub && subs <= x.most && tests == x.test)
				size(t, p, 1+subs+tests)
			}
		}
	}
	for _, op := range []int{0, -1, -api.Seq, api.Where + 1, api.Some, 1 << 40, -1 << 40} {
		right(t, api.Path{Op: op}, false)
		right(t, api.Path{Op: op, Sub: []api.Path{step}}, false)
		right(t, api.Path{Op: op, Sub: []api.Path{step, step}}, false)
		right(t, api.Path{Op: op, Test: []api.Filter{yes}}, false)
	}
}

// P12.1: a part that isn't right, at each place of each kind of path and filter.
func TestWrongParts(t *testing.T) {
	wrong, not1 := api.Path{Op: 8}, api.Filter{Op: 12}
	for _, p := range []api.Path{
		seq(wrong, step), seq(step, wrong), seq(step, wrong, step), seq(step, step, wrong),
		alt(wrong, step), alt(step, wrong), alt(step, wrong, step), alt(step, step, wrong),
		star(wrong), star(star(wrong)), where(not1), seq(step, star(alt(step, where(not1)))),
		where(not(not1)), where(and(not1, yes)), where(and(yes, not1)), where(and(yes, not1, yes)), where(and(yes, yes, not1)),
		where(or(not1, yes)), where(or(yes, not1)), where(or(yes, not1, yes)), where(or(yes, yes, not1)),
		where(some(wrong)), where(some(where(not1))), where(not(some(seq(step, where(and(yes, not1)))))),
	} {
		right(t, p, false)
	}
}

// P12.1: each kind of filter with just what it asks for, with too few and too many parts, and with what it may not have.
func TestFilters(t *testing.T) {
	type form struct {
		op, sub, most, way int
		name, value        bool
		text               bool
	}
	for _, x := range []form{
		{op: api.True}, {op: api.IsElem}, {op: api.IsText},
		{op: api.Named, name: true}, {op: api.HasAttr, name: true},
		{op: api.AttrIs, name: true, value: true},
		{op: api.TextIs, text: true},
		{op: api.Not, sub: 1, most: 1}, {op: api.And, sub: 2, most: 5}, {op: api.Or, sub: 2, most: 5},
		{op: api.Some, way: 1},
		{op: 0, sub: 9}, {op: -1, sub: 9}, {op: -api.Named, sub: 9}, {op: api.Some + 1, sub: 9}, {op: 1 << 40, sub: 9},
	} {
		for subs := range 5 {
			for ways := range 3 {
				for _, name := range []api.Name{{}, n("a"), in("u", "a"), in("u", "")} {
					for _, value := range []string{"", "v"} {
						f := api.Filter{Op: x.op, Name: name, Value: value, Sub: slices.Repeat([]api.Filter{yes}, subs), Way: slices.Repeat([]api.Path{step}, ways)}
						want := subs >= x.sub && subs <= x.most && ways == x.way &&
							(name == api.Name{} && !x.name || name.Local != "" && x.name) &&
							(value == "" && !x.text || value != "" && (x.value || x.text))
						filterIs(t, f, want)
						size(t, where(f), 2+subs+ways)
					}
				}
			}
		}
	}
}

// P12.1: names that may be, and that may not, of each kind of filter that asks for one.
func TestNames(t *testing.T) {
	xmlns := api.XmlnsSpace
	for _, x := range []struct {
		name api.Name
		want bool
	}{
		{n("a"), true}, {n("a-1.b"), true}, {n("_"), true}, {n("é"), true}, {n("\U000effff"), true}, {n("xml"), true}, {n("xmlns"), true},
		{n("\ufffd"), true}, {n("and"), true}, {n("a·"), true},
		{n(""), false}, {n(" "), false}, {n("a "), false}, {n(" a"), false}, {n("-a"), false}, {n("1"), false}, {n("·"), false}, {n("*"), false},
		{n("a:b"), false}, {n(":a"), false}, {n("a:"), false}, {n(":"), false}, {n("\U000f0000"), false}, {n("a\x00"), false},
		{n(bad), false}, {n("a" + bad), false}, {n(bad + "a"), false}, {n("a\xc3"), false}, {n("a\xed\xa0\x80"), false}, {n("\xc1\x81"), false},
		{in("u", "a"), true}, {in("", "a"), true}, {in(" ", "a"), true}, {in("u v\t\r\n", "a"), true}, {in("&<>\"'", "a"), true}, {in("|~z", "a"), true},
		{in("\ufffd\U0010ffff\ud7ff\ue000", "a"), true}, {in("[(", "a"), true}, {in(strings.Repeat("u", 100000), "a"), true},
		{in("{", "a"), false}, {in("}", "a"), false}, {in("u{v", "a"), false}, {in("u}", "a"), false}, {in("{u", "a"), false}, {in("{u}", "a"), false},
		{in("\x00", "a"), false}, {in("u\x1f", "a"), false}, {in("\ufffe", "a"), false}, {in("u\uffffv", "a"), false},
		{in(bad, "a"), false}, {in("u"+bad, "a"), false}, {in("u\xe2\x82", "a"), false}, {in("\xed\xa0\x80", "a"), false}, {in("\xf4\x90\x80\x80", "a"), false},
		{in(api.XmlSpace, "a"), true}, {in(xmlns, "a"), false}, {in(xmlns, "xmlns"), false},
		{in(xmlns+"/", "a"), true}, {in(xmlns[:len(xmlns)-1], "a"), true}, {in(strings.ToUpper(xmlns), "a"), true}, {in(" "+xmlns, "a"), true},
		{in("u", ""), false}, {in("u", "a:b"), false}, {in(api.XmlSpace, ""), false},
	} {
		filterIs(t, named(x.name), x.want)
		filterIs(t, hasAttr(x.name), x.want)
		filterIs(t, attrIs(x.name, ""), x.want)
		filterIs(t, attrIs(x.name, "v"), x.want)
	}
}

// P12.1: each rune in a name, in its space and in a value, as chapters 2 and 3 tell.
func TestEachRune(t *testing.T) {
	for r := rune(0); r <= 0x10ffff; r++ {
		if !utf8.ValidRune(r) {
			continue
		}
		s := string(r)
		for _, x := range []struct {
			f    api.Filter
			want bool
		}{
			{named(n(s)), name.Plain(s)},
			{hasAttr(n("a" + s)), name.Plain("a" + s)},
			{named(in(s, "a")), char.Char(r) && r != '{' && r != '}'},
			{attrIs(in("u"+s+"v", "a"), "v"), char.Char(r) && r != '{' && r != '}'},
			{attrIs(n("a"), s+"v"), char.Char(r)},
			{textIs("v" + s), char.Char(r)},
		} {
			if Right(where(x.f)) != x.want {
				t.Errorf("%x: Right of %s: not %t", r, show(x.f), x.want)
			}
		}
	}
}

// P12.1: values that may be, and that may not.
func TestValues(t *testing.T) {
	for _, x := range []struct {
		value string
		want  bool
	}{
		{" ", true}, {"v", true}, {"\t\r\n", true}, {"{}", true}, {"&<>\"'\\", true}, {"é\ufffd\U0010ffff", true}, {api.XmlnsSpace, true}, {strings.Repeat("v", 100000), true},
		{"\x00", false}, {"v\x1f", false}, {"\x0bv", false}, {"\ufffe", false}, {"v\uffff", false},
		{bad, false}, {"v" + bad, false}, {bad + "v", false}, {"v\xc3", false}, {"\xed\xa0\x80", false}, {"\xc0\x80", false}, {"\xf4\x90\x80\x80", false},
	} {
		filterIs(t, attrIs(n("a"), x.value), x.want)
		filterIs(t, textIs(x.value), x.want)
	}
	filterIs(t, attrIs(n("a"), ""), true)
	filterIs(t, textIs(""), false)
}

// pathTower is so many paths within one another.
func pathTower(levels int) api.Path {
	p := step
	for range levels - 1 {
		p = star(p)
	}
	return p
}

// filterTower is a path with filters, so many within one another in all.
func filterTower(levels int) api.Path {
	f := yes
	for range levels - 2 {
		f = not(f)
	}
	return where(f)
}

// mixedTower is paths and filters in turn, so many (an even number) within one another.
func mixedTower(levels int) api.Path {
	p := where(yes)
	for range levels/2 - 1 {
		p = where(some(p))
	}
	return p
}

// wideTower is so many within one another, with something beside each and ahead of it.
func wideTower(levels int) api.Path {
	p := alt(step, where(named(n("a"))))
	for range levels - 3 {
		p = seq(step, p)
	}
	return p
}

// P12.1: paths of 16 parts within one another are right, of 17 no more.
func TestLevels(t *testing.T) {
	for levels := 3; levels <= 40; levels++ {
		for _, p := range []api.Path{pathTower(levels), filterTower(levels), star(filterTower(levels - 1)), wideTower(levels)} {
			right(t, p, levels <= 16)
		}
		if levels%2 == 0 {
			right(t, mixedTower(levels), levels <= 16)
			right(t, star(mixedTower(levels)), levels <= 15)
		}
		size(t, pathTower(levels), levels)
		size(t, filterTower(levels), levels)
		size(t, wideTower(levels), 2*levels-2)
	}
	right(t, step, true)
	right(t, seq(step, pathTower(15), step), true)
	right(t, seq(step, pathTower(16), step), false)
	right(t, where(and(some(pathTower(14)), yes)), false)
	right(t, where(and(some(pathTower(13)), yes)), true)
}

// wide is a row of so many parts in all.
func wide(parts int, op int) api.Path {
	return api.Path{Op: op, Sub: slices.Repeat([]api.Path{step}, parts-1)}
}

// wideFilter is a filter's row of so many parts in all.
func wideFilter(parts int, op int) api.Path {
	return where(api.Filter{Op: op, Sub: slices.Repeat([]api.Filter{yes}, parts-2)})
}

// P12.1: paths of 64 parts are right, of 65 no more.
func TestParts(t *testing.T) {
	for parts := 60; parts < 70; parts++ {
		for _, p := range []api.Path{
			wide(parts, api.Seq), wide(parts, api.Alt), wideFilter(parts, api.And), wideFilter(parts, api.Or),
			star(wide(parts-1, api.Alt)), where(some(wide(parts-2, api.Seq))), seq(step, wide(30, api.Alt), wideFilter(parts-32, api.And)),
			alt(wide(31, api.Seq), where(some(wideFilter(parts-34, api.Or)))),
		} {
			size(t, p, parts)
			right(t, p, parts <= api.MaxSize)
		}
	}
}

// P12.3: the size of a path is the sum of its parts' and one.
func sums(t *testing.T, p api.Path) {
	t.Helper()
	sum := 1
	for _, sub := range p.Sub {
		sum += Size(sub)
	}
	for _, f := range p.Test {
		// The filter's own size is that of the path with it alone, but one.
		sum += Size(where(f)) - 1
		within := 1
		for _, g := range f.Sub {
			within += Size(where(g)) - 1
		}
		for _, way := range f.Way {
			within += Size(way)
		}
		if Size(where(f)) != within+1 {
			t.Errorf("Size of %s: %d, not %d", show(f), Size(where(f))-1, within)
		}
	}
	size(t, p, sum)
}

// P12.1, P12.3: sizes of each kind.
func TestSize(t *testing.T) {
	for _, x := range []struct {
		p    api.Path
		want int
	}{
		{api.Path{Op: api.Stay}, 1}, {step, 1}, {api.Path{Op: api.Next}, 1},
		{seq(step, step), 3}, {alt(step, step, step), 4}, {star(step), 2}, {star(star(step)), 3}, {where(yes), 2},
		{where(textIs("t")), 2}, {where(attrIs(in("u", "a"), "v")), 2}, {where(not(yes)), 3}, {where(and(yes, yes)), 4}, {where(or(yes, yes, yes)), 5},
		{where(some(step)), 3}, {where(not(some(seq(step, star(where(and(yes, some(step)))))))), 11},
		{seq(where(some(seq(step, step))), star(alt(step, where(not(yes))))), 12},
	} {
		right(t, x.p, true)
		size(t, x.p, x.want)
		sums(t, x.p)
	}
}

// P12.1: what is alike, whether or not it is right; nil and empty lists are one.
func TestSame(t *testing.T) {
	whole := seq(step, star(alt(where(and(named(in("u", "a")), not(attrIs(n("x"), "1")), or(textIs("t"), yes), some(where(hasAttr(n("y")))))), step)), where(some(step)))
	for _, p := range []api.Path{
		step, {}, {Op: -3}, {Op: 99}, whole, star(), star(step, step), seq(), where(), where(yes, yes),
		{Op: api.Stay, Sub: []api.Path{step}, Test: []api.Filter{yes}},
		where(api.Filter{}), where(api.Filter{Op: 77, Name: in(bad, bad), Value: bad, Sub: []api.Filter{yes}, Way: []api.Path{step}}),
	} {
		alike(t, p, p, true)
		alike(t, p, copied(p), true)
		alike(t, p, roomy(p), true)
		alike(t, roomy(p), roomy(p), true)
		alike(t, seq(step, p), seq(step, roomy(p)), true)
	}
}

// variants are paths that differ from p in just one thing, at each place of it.
func variants(p api.Path) []api.Path {
	l := []api.Path{}
	add := func(change func(q *api.Path)) {
		q := copied(p)
		change(&q)
		l = append(l, q)
	}
	add(func(q *api.Path) { q.Op++ })
	add(func(q *api.Path) { q.Sub = append(q.Sub, step) })
	add(func(q *api.Path) { q.Test = append(q.Test, yes) })
	if len(p.Sub) > 0 {
		add(func(q *api.Path) { q.Sub = q.Sub[:len(q.Sub)-1] })
		add(func(q *api.Path) { q.Sub = q.Sub[1:] })
	}
	if len(p.Test) > 0 {
		add(func(q *api.Path) { q.Test = q.Test[1:] })
	}
	for i := range p.Sub {
		for _, x := range variants(p.Sub[i]) {
			add(func(q *api.Path) { q.Sub[i] = x })
		}
	}
	for i := range p.Test {
		for _, x := range filterVariants(p.Test[i]) {
			add(func(q *api.Path) { q.Test[i] = x })
		}
	}
	return l
}

// filterVariants is variants of a filter.
func filterVariants(f api.Filter) []api.Filter {
	l := []api.Filter{}
	add := func(change func(g *api.Filter)) {
		g := copiedFilter(f)
		change(&g)
		l = append(l, g)
	}
	add(func(g *api.Filter) { g.Op++ })
	add(func(g *api.Filter) { g.Name.Space += "u" })
	add(func(g *api.Filter) { g.Name.Local += "b" })
	add(func(g *api.Filter) { g.Value += "v" })
	add(func(g *api.Filter) { g.Sub = append(g.Sub, yes) })
	add(func(g *api.Filter) { g.Way = append(g.Way, step) })
	if len(f.Sub) > 0 {
		add(func(g *api.Filter) { g.Sub = g.Sub[:len(g.Sub)-1] })
		add(func(g *api.Filter) { g.Sub = g.Sub[1:] })
	}
	if len(f.Way) > 0 {
		add(func(g *api.Filter) { g.Way = g.Way[1:] })
	}
	for i := range f.Sub {
		for _, x := range filterVariants(f.Sub[i]) {
			add(func(g *api.Filter) { g.Sub[i] = x })
		}
	}
	for i := range f.Way {
		for _, x := range variants(f.Way[i]) {
			add(func(g *api.Filter) { g.Way[i] = x })
		}
	}
	return l
}

// P12.1: paths that differ in one place aren't alike.
func TestDiffer(t *testing.T) {
	whole := seq(step, star(alt(where(and(named(in("u", "a")), not(attrIs(n("x"), "1")), or(textIs("t"), yes), some(where(hasAttr(n("y")))))), api.Path{Op: api.Next})), where(some(step)))
	l := append(variants(whole), whole)
	for i, a := range l {
		for j, b := range l {
			if Same(a, b) != (i == j || written(a) == written(b)) {
				t.Errorf("Same of %s and %s: not %t", show(a), show(b), i == j)
			}
		}
		if i < len(l)-1 {
			alike(t, whole, a, false)
		}
	}
	alike(t, alt(step, where(yes)), alt(where(yes), step), false)
	alike(t, where(and(yes, textIs("t"))), where(and(textIs("t"), yes)), false)
	alike(t, seq(step, seq(step, step)), seq(seq(step, step), step), false)
	alike(t, where(named(in("u", "a"))), where(named(in("ua", ""))), false)
}

// P12.1: Same of paths of 10000 parts, and of 100 within one another.
func TestSameLarge(t *testing.T) {
	for _, p := range []api.Path{
		wide(10000, api.Seq), wide(9999, api.Where), wideFilter(10000, api.And), pathTower(100), filterTower(100), mixedTower(100), wideTower(100), doubled(13),
		{Op: api.Alt, Sub: slices.Repeat([]api.Path{pathTower(99)}, 101)},
		where(api.Filter{Op: api.Or, Sub: slices.Repeat(filterTower(99).Test, 102)}),
	} {
		right(t, p, false)
		alike(t, p, copied(p), true)
		alike(t, p, roomy(p), true)
		alike(t, p, last(p), false)
		alike(t, p, step, false)
		sums(t, p)
	}
	size(t, wide(10000, api.Seq), 10000)
	size(t, doubled(13), 8191)
}

// doubled is a path of so many levels, each with two of the next one.
func doubled(levels int) api.Path {
	p := step
	for range levels - 1 {
		p = seq(p, p)
	}
	return p
}

// last is a path whose last part, gone to by the last of each list, is another one.
func last(p api.Path) api.Path {
	p = copied(p)
	switch {
	case len(p.Sub) > 0:
		p.Sub[len(p.Sub)-1] = last(p.Sub[len(p.Sub)-1])
	case len(p.Test) > 0:
		p.Test[len(p.Test)-1] = lastFilter(p.Test[len(p.Test)-1])
	default:
		p.Op++
	}
	return p
}

// lastFilter is last of a filter.
func lastFilter(f api.Filter) api.Filter {
	switch {
	case len(f.Sub) > 0:
		f.Sub[len(f.Sub)-1] = lastFilter(f.Sub[len(f.Sub)-1])
	case len(f.Way) > 0:
		f.Way[len(f.Way)-1] = last(f.Way[len(f.Way)-1])
	default:
		f.Value += "v"
	}
	return f
}

// P12.2: what is spoken of, in the order in which it stands first.
func TestSpeaks(t *testing.T) {
	a, b, c, ua := n("a"), n("b"), n("c"), in("u", "a")
	names := func(l ...api.Name) Words { return Words{Names: l} }
	speaks(t, Words{})
	for _, p := range []api.Path{step, {Op: api.Stay}, seq(step, star(alt(step, step))), where(yes), where(and(not(yes), some(step))), where(api.Filter{Op: api.IsElem}), where(api.Filter{Op: api.IsText})} {
		speaks(t, Words{}, p)
		speaks(t, names(a), p, where(named(a)), p)
	}
	speaks(t, names(a, b), seq(where(named(a)), where(named(b))))
	speaks(t, names(b, a), alt(where(named(b)), where(named(a))))
	speaks(t, names(a, ua, b), alt(where(named(a)), star(where(named(ua))), where(named(a))), where(named(ua)), where(named(b)))
	speaks(t, names(ua, in("v", "a"), a), where(or(named(ua), named(in("v", "a")), named(ua))), where(named(a)))
	speaks(t, names(a, b, c), where(and(not(or(named(a), named(b))), named(a), some(where(named(c))), named(b))))
	speaks(t, names(b, a, c), seq(star(where(not(named(b)))), where(some(seq(where(named(a)), where(named(b)))))), where(named(a)), where(named(c)))
	speaks(t, names(c, b, a), where(named(c)), where(named(b)), where(named(a)), where(named(b)))
	speaks(t, Words{Texts: []string{"t", "s", " "}}, where(or(textIs("t"), textIs("s"), textIs("t"))), where(textIs(" ")), where(textIs("s")))
	// An element's name, an attribute's, a value and a text of one spelling are told each in their list.
	speaks(t, Words{Names: []api.Name{a}, Attrs: []api.Name{a}, Values: [][]string{{"a"}}, Texts: []string{"a"}}, where(and(named(a), hasAttr(a), attrIs(a, "a"), textIs("a"))))
	speaks(t, Words{Names: []api.Name{a}, Attrs: []api.Name{a}, Values: [][]string{{"a"}}, Texts: []string{"a"}}, where(textIs("a")), where(attrIs(a, "a")), where(hasAttr(a)), where(named(a)))
}

// P12.2: attributes and their values.
func TestSpeaksValues(t *testing.T) {
	x, y, ux := n("x"), n("y"), in("u", "x")
	for _, c := range []struct {
		l      []api.Filter
		attrs  []api.Name
		values [][]string
	}{
		{[]api.Filter{hasAttr(x)}, []api.Name{x}, [][]string{nil}},
		{[]api.Filter{attrIs(x, "1")}, []api.Name{x}, [][]string{{"1"}}},
		{[]api.Filter{attrIs(x, "")}, []api.Name{x}, [][]string{{""}}},
		{[]api.Filter{hasAttr(x), attrIs(x, "1")}, []api.Name{x}, [][]string{{"1"}}},
		{[]api.Filter{attrIs(x, "1"), hasAttr(x)}, []api.Name{x}, [][]string{{"1"}}},
		{[]api.Filter{attrIs(x, "1"), attrIs(x, "2")}, []api.Name{x}, [][]string{{"1", "2"}}},
		{[]api.Filter{attrIs(x, "2"), attrIs(x, "1"), attrIs(x, "2")}, []api.Name{x}, [][]string{{"2", "1"}}},
		{[]api.Filter{attrIs(x, "1"), attrIs(x, ""), attrIs(x, "")}, []api.Name{x}, [][]string{{"1", ""}}},
		{[]api.Filter{attrIs(x, "1"), attrIs(y, "1")}, []api.Name{x, y}, [][]string{{"1"}, {"1"}}},
		{[]api.Filter{hasAttr(y), attrIs(x, "1"), attrIs(y, "2"), attrIs(x, "3"), attrIs(y, "1")}, []api.Name{y, x}, [][]string{{"2", "1"}, {"1", "3"}}},
		{[]api.Filter{attrIs(x, "1"), attrIs(ux, "2"), attrIs(in("ux", "x"), "3"), attrIs(x, "2")}, []api.Name{x, ux, in("ux", "x")}, [][]string{{"1", "2"}, {"2"}, {"3"}}},
		{[]api.Filter{hasAttr(x), hasAttr(y), hasAttr(x), attrIs(y, "y")}, []api.Name{x, y}, [][]string{nil, {"y"}}},
		{[]api.Filter{named(x), attrIs(y, "x"), textIs("z"), hasAttr(x)}, []api.Name{y, x}, [][]string{{"x"}, nil}},
	} {
		within := where(and(append(slices.Clone(c.l), yes, yes)...))
		var apart []api.Path
		for _, f := range c.l {
			apart = append(apart, where(some(where(not(f)))))
		}
		for _, l := range [][]api.Path{{within}, apart, append(apart, within), {seq(step, step), star(within)}} {
			got := Speaks(l...)
			if !slices.Equal(got.Attrs, c.attrs) || !slices.EqualFunc(got.Values, c.values, slices.Equal) {
				t.Errorf("Speaks of %s: %s", show(l), show(got))
			}
		}
	}
}

// P12.2: of many paths.
func TestSpeaksMany(t *testing.T) {
	var l []api.Path
	var want Words
	for i := range 30000 {
		s := strconv.Itoa(i % 20000)
		l = append(l, where(and(named(n("a"+s)), attrIs(n("x"), s), textIs(s), attrIs(n("x"+s), ""))))
		if i >= 20000 {
			continue
		}
		if i == 0 {
			want.Attrs, want.Values = []api.Name{n("x")}, [][]string{nil}
		}
		want.Names, want.Texts = append(want.Names, n("a"+s)), append(want.Texts, s)
		want.Attrs, want.Values = append(want.Attrs, n("x"+s)), append(want.Values, []string{""})
		want.Values[0] = append(want.Values[0], s)
	}
	speaks(t, want, l...)
}

// written writes a path such that what differs is written differently.
func written(p api.Path) string {
	s := "p" + strconv.Itoa(p.Op) + "("
	for _, sub := range p.Sub {
		s += written(sub)
	}
	s += ";"
	for _, f := range p.Test {
		s += writtenFilter(f)
	}
	return s + ")"
}

// writtenFilter is written of a filter.
func writtenFilter(f api.Filter) string {
	s := fmt.Sprintf("f%d%q%q%q(", f.Op, f.Name.Space, f.Name.Local, f.Value)
	for _, sub := range f.Sub {
		s += writtenFilter(sub)
	}
	s += ";"
	for _, p := range f.Way {
		s += written(p)
	}
	return s + ")"
}

// part is a path or a filter, with how many it stands within, itself among them.
type part struct {
	path   *api.Path
	filter *api.Filter
	level  int
}

// parts are all of a path's, each ahead of its own.
func parts(p *api.Path) []part {
	var l []part
	wait := []part{{path: p, level: 1}}
	for len(wait) > 0 {
		x := wait[len(wait)-1]
		wait = wait[:len(wait)-1]
		l = append(l, x)
		var next []part
		if x.path != nil {
			for i := range x.path.Sub {
				next = append(next, part{path: &x.path.Sub[i], level: x.level + 1})
			}
			for i := range x.path.Test {
				next = append(next, part{filter: &x.path.Test[i], level: x.level + 1})
			}
		} else {
			for i := range x.filter.Sub {
				next = append(next, part{filter: &x.filter.Sub[i], level: x.level + 1})
			}
			for i := range x.filter.Way {
				next = append(next, part{path: &x.filter.Way[i], level: x.level + 1})
			}
		}
		slices.Reverse(next)
		wait = append(wait, next...)
	}
	return l
}

// runes tells whether all runes of s, that is UTF-8, may stand in a text and are none of those left out.
func runes(s, out string) bool {
	return utf8.ValidString(s) && char.All(s, char.Char) && !strings.ContainsAny(s, out)
}

// mayBe tells of a name by the chapter's words.
func mayBe(x api.Name) bool {
	return utf8.ValidString(x.Local) && name.Plain(x.Local) && runes(x.Space, "{}") && x.Space != "http://www.w3.org/2000/xmlns/"
}

// fits tells whether a part is right, if those in it are, by the chapter's words.
func fits(x part) bool {
	if x.path != nil {
		p := x.path
		switch p.Op {
		case api.Stay, api.First, api.Next:
			return len(p.Sub)+len(p.Test) == 0
		case api.Seq, api.Alt:
			return len(p.Sub) > 1 && len(p.Test) == 0
		case api.Star:
			return len(p.Sub) == 1 && len(p.Test) == 0
		}
		return p.Op == api.Where && len(p.Sub) == 0 && len(p.Test) == 1
	}
	f := *x.filter
	subs, ways := len(f.Sub), len(f.Way)
	f.Sub, f.Way = nil, nil
	asks := api.Filter{Op: f.Op}
	ok := false
	switch f.Op {
	case api.True, api.IsElem, api.IsText:
		ok = subs+ways == 0
	case api.Named, api.HasAttr:
		ok, asks.Name = subs+ways == 0 && mayBe(f.Name), f.Name
	case api.AttrIs:
		ok, asks.Name, asks.Value = subs+ways == 0 && mayBe(f.Name) && runes(f.Value, ""), f.Name, f.Value
	case api.TextIs:
		ok, asks.Value = subs+ways == 0 && f.Value != "" && runes(f.Value, ""), f.Value
	case api.Not:
		ok = subs == 1 && ways == 0
	case api.And, api.Or:
		ok = subs > 1 && ways == 0
	case api.Some:
		ok = subs == 0 && ways == 1
	}
	return ok && reflect.DeepEqual(f, asks)
}

// modelRight is Right by the chapter's words: of a list of all parts.
func modelRight(p api.Path) bool {
	l := parts(&p)
	for _, x := range l {
		if !fits(x) || x.level > 16 {
			return false
		}
	}
	return len(l) <= 64
}

// modelSpeaks is Speaks by the chapter's words: of a list of all parts of all paths.
func modelSpeaks(l []api.Path) Words {
	var w Words
	for i := range l {
		for _, x := range parts(&l[i]) {
			if x.filter == nil {
				continue
			}
			f := *x.filter
			if f.Op == api.Named && !slices.Contains(w.Names, f.Name) {
				w.Names = append(w.Names, f.Name)
			}
			if f.Op == api.TextIs && !slices.Contains(w.Texts, f.Value) {
				w.Texts = append(w.Texts, f.Value)
			}
			if f.Op != api.HasAttr && f.Op != api.AttrIs {
				continue
			}
			at := slices.Index(w.Attrs, f.Name)
			if at < 0 {
				at = len(w.Attrs)
				w.Attrs, w.Values = append(w.Attrs, f.Name), append(w.Values, nil)
			}
			if f.Op == api.AttrIs && !slices.Contains(w.Values[at], f.Value) {
				w.Values[at] = append(w.Values[at], f.Value)
			}
		}
	}
	return w
}

// agrees holds that all calls answer of a path what the chapter's words say.
func agrees(t *testing.T, p api.Path) {
	t.Helper()
	right(t, p, modelRight(p))
	size(t, p, len(parts(&p)))
	sums(t, p)
	alike(t, p, p, true)
	if modelRight(p) {
		speaks(t, modelSpeaks([]api.Path{p}), p)
	}
}

// P12.1 to P12.3: all small paths, right and wrong ones.
func TestSmall(t *testing.T) {
	names := []api.Name{{}, n("a"), n("1"), in("u", "a"), in("}", "a")}
	var filters []api.Filter
	lists := [][]api.Filter{nil, {yes}, {yes, yes}, {textIs("")}, {yes, named(n("b"))}, {hasAttr(n("a")), yes, {}}}
	ways := [][]api.Path{nil, {step}, {step, step}, {{}}, {where(attrIs(n("x"), ""))}}
	for op := -1; op <= api.Some+1; op++ {
		for _, name := range names {
			for _, value := range []string{"", "v", bad} {
				for _, sub := range lists {
					for _, way := range ways {
						filters = append(filters, api.Filter{Op: op, Name: name, Value: value, Sub: sub, Way: way})
					}
				}
			}
		}
	}
	for _, f := range filters {
		agrees(t, where(f))
	}
	subs := [][]api.Path{nil, {step}, {{}}, {step, step}, {step, {Op: 8}}, {{Op: api.Seq}, step}, {step, step, step}, {star(step), where(named(n("a")))}, {where(yes), star(step, step), step}}
	for op := -1; op <= api.Where+1; op++ {
		for _, sub := range subs {
			for _, test := range lists {
				agrees(t, api.Path{Op: op, Sub: sub, Test: test})
				agrees(t, star(api.Path{Op: op, Sub: sub, Test: test}))
				agrees(t, where(some(api.Path{Op: op, Sub: sub, Test: test})))
			}
		}
	}
}

// maker makes paths of some chance, of some left parts at most, and what these ask for; now and then a part is wrong.
type maker struct {
	*rand.Rand
	wrong, left int
}

// slip tells whether the next part is to be wrong.
func (m *maker) slip() bool {
	return m.wrong > 0 && m.Intn(m.wrong) == 0
}

// path makes a path of at most so many levels.
func (m *maker) path(levels int) api.Path {
	p := api.Path{Op: 1 + m.Intn(3)}
	m.left--
	if levels > 1 && m.left > 0 && m.Intn(6) > 0 {
		p.Op = 4 + m.Intn(4)
	}
	subs := 0
	switch p.Op {
	case api.Seq, api.Alt:
		subs = 2 + m.Intn(2)
	case api.Star:
		subs = 1
	case api.Where:
		p.Test = append(p.Test, m.filter(levels-1))
	}
	for range subs {
		p.Sub = append(p.Sub, m.path(levels-1))
	}
	if m.slip() {
		p.Op = m.Intn(10) - 1
	}
	return p
}

// filter makes a filter of at most so many levels.
func (m *maker) filter(levels int) api.Filter {
	f := api.Filter{Op: 1 + m.Intn(7)}
	m.left--
	if levels > 1 && m.left > 0 && m.Intn(6) > 0 {
		f.Op = 8 + m.Intn(4)
	}
	subs := 0
	switch f.Op {
	case api.Named, api.HasAttr, api.AttrIs:
		f.Name = in([]string{"", "u", api.XmlSpace}[m.Intn(3)], []string{"a", "b", "é"}[m.Intn(3)])
	case api.Not:
		subs = 1
	case api.And, api.Or:
		subs = 2 + m.Intn(2)
	case api.Some:
		f.Way = append(f.Way, m.path(levels-1))
	}
	if f.Op == api.AttrIs || f.Op == api.TextIs {
		f.Value = []string{"v", "w", " ", "é"}[m.Intn(4)]
	}
	for range subs {
		f.Sub = append(f.Sub, m.filter(levels-1))
	}
	if m.slip() {
		f.Op = m.Intn(14) - 1
	}
	if m.slip() {
		f.Name = in([]string{"{", "", api.XmlnsSpace, bad, "\x01"}[m.Intn(5)], []string{"a", "", "a:b", bad}[m.Intn(4)])
	}
	if m.slip() {
		f.Value = []string{"", "\x00", bad, "v"}[m.Intn(4)]
	}
	return f
}

// P12.1 to P12.3: paths of some chance, against the chapter's words tried out anew.
func TestChance(t *testing.T) {
	kinds := map[bool]int{}
	r := rand.New(rand.NewSource(12))
	var l []api.Path
	for i := range 60000 {
		m := maker{r, []int{0, 8, 40, 200}[i%4], r.Intn(70)}
		p := m.path(1 + r.Intn(18))
		kinds[modelRight(p)]++
		agrees(t, p)
		alike(t, p, copied(p), true)
		if q := last(p); written(q) != written(p) {
			alike(t, p, q, false)
		}
		if len(l) > 0 {
			alike(t, p, l[len(l)-1], written(p) == written(l[len(l)-1]))
		}
		if modelRight(p) {
			l = append(l, p)
		}
		if len(l) == 6 {
			speaks(t, modelSpeaks(l), l...)
			l = nil
		}
	}
	if kinds[true] < 5000 || kinds[false] < 5000 {
		t.Error("too few of a kind:", kinds)
	}
}

// busy is a path that speaks of each kind of thing, several times.
func busy() api.Path {
	return seq(where(and(named(in("u", "a")), hasAttr(in("u", "x")), attrIs(in("u", "x"), "1"), attrIs(n("y"), "2"))),
		star(alt(where(textIs("t")), where(some(where(or(named(n("b")), attrIs(n("y"), "3"), textIs("s"))))))), where(named(in("u", "a"))))
}

// P12.4: what is answered is new memory, with lists of its own; what is handed in stays as it was.
func TestMemory(t *testing.T) {
	p, as := busy(), busy()
	l := []api.Path{p, roomy(p), step}
	want := modelSpeaks([]api.Path{as})
	first := Speaks(l...)
	Right(p)
	Size(p)
	Same(p, l[1])
	if !reflect.DeepEqual(l, []api.Path{as, roomy(as), step}) {
		t.Error("what was handed in was changed:", show(l))
	}
	first.Names = append(first.Names[:1], n("q"))
	first.Names[0], first.Attrs[0], first.Texts[0] = n("q"), n("q"), "q"
	first.Values[1][0] = "q"
	_ = append(first.Values[0], "q", "q")
	_ = append(first.Values[1][:1], "q")
	first.Values[0] = nil
	if !reflect.DeepEqual(l, []api.Path{as, roomy(as), step}) {
		t.Error("an answer shares memory with what was handed in:", show(l))
	}
	speaks(t, want, l...)
	second, third := Speaks(l...), Speaks(l...)
	for i := range l {
		l[i] = step
	}
	for i := range p.Sub {
		p.Sub[i] = where(named(n("q")))
	}
	if !equal(second, want) {
		t.Error("an answer changes with what was handed in:", show(second))
	}
	third.Values[0][0], third.Names[0] = "q", n("q")
	if !equal(second, want) {
		t.Error("two answers share memory:", show(second))
	}
}

// P12.4: no list of an answer has room in which another one stands.
func TestRoom(t *testing.T) {
	var l []api.Path
	for i := range 200 {
		s := strconv.Itoa(i)
		l = append(l, where(attrIs(n("x"+strconv.Itoa(i%7)), s)), where(named(n("a"+s))))
	}
	w, want := Speaks(l...), modelSpeaks(l)
	for i := range w.Values {
		_ = append(w.Values[i], "q", "q", "q")
	}
	_, _, _ = append(w.Names, n("q")), append(w.Attrs, n("q")), append(w.Values, []string{"q"})
	if !equal(w, want) {
		t.Error("lists share memory:", show(w))
	}
}

// P12.4: an answer's texts don't keep those that were handed in.
func TestTexts(t *testing.T) {
	source := strings.Repeat("abcdefgh", 8)
	f := func(at int) string { return source[at : at+8] }
	w := Speaks(where(and(named(in(f(0), f(8))), attrIs(in(f(16), f(24)), f(32)), textIs(f(40)))))
	start := uintptr(unsafe.Pointer(unsafe.StringData(source)))
	for _, s := range []string{w.Names[0].Space, w.Names[0].Local, w.Attrs[0].Space, w.Attrs[0].Local, w.Values[0][0], w.Texts[0]} {
		at := uintptr(unsafe.Pointer(unsafe.StringData(s)))
		if s != "abcdefgh" || at >= start && at < start+uintptr(len(source)) {
			t.Errorf("%q is a piece of what was handed in", s)
		}
	}
}

// P1: each call ends, also of paths of many levels, of many parts and of those that hold themselves.
func TestEnds(t *testing.T) {
	self := []api.Path{{Op: api.Star}}
	self[0].Sub = self
	both := []api.Path{{Op: api.Seq}, {Op: api.Seq}}
	both[0].Sub, both[1].Sub = both, both
	filters := []api.Filter{{Op: api.And}, {Op: api.Or}}
	filters[0].Sub, filters[1].Sub = filters, filters
	mixed := []api.Path{{Op: api.Where}}
	mixed[0].Test = []api.Filter{{Op: api.Some, Way: mixed}}
	for _, p := range []api.Path{
		pathTower(1 << 16), filterTower(1 << 16), mixedTower(1 << 16), wideTower(1 << 16), doubled(1000), wide(1<<20, api.Seq), wideFilter(1<<20, api.And),
		self[0], star(self...), both[0], seq(both...), where(filters[0]), where(filters...), mixed[0], where(not(some(mixed...))),
		{Op: api.Seq, Sub: slices.Repeat([]api.Path{pathTower(16)}, 1<<16)},
	} {
		right(t, p, false)
		size(t, p, 0)
		Same(p, p)
		alike(t, p, step, false)
		alike(t, step, p, false)
		Speaks(p, p, step)
		speaks(t, Words{Names: []api.Name{n("z")}}, where(named(n("z"))), step)
	}
	long := strings.Repeat("é", 1<<20)
	filterIs(t, attrIs(in(long, long), long), true)
	filterIs(t, attrIs(in(long, long), long+bad), false)
}
