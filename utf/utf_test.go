package utf

import (
	"math"
	"math/rand"
	"slices"
	"strings"
	"testing"

	"oriel/api"
)

// The first and the last rune of each number of bytes, those beside d800 to dfff, and their bytes written out.
var edges = []struct {
	r rune
	s string
}{
	{0, "\x00"},
	{'a', "a"},
	{0x7f, "\x7f"},
	{0x80, "\xc2\x80"},
	{0xe9, "\xc3\xa9"},
	{0x7ff, "\xdf\xbf"},
	{0x800, "\xe0\xa0\x80"},
	{0x20ac, "\xe2\x82\xac"},
	{0xd7ff, "\xed\x9f\xbf"},
	{0xe000, "\xee\x80\x80"},
	{0xfffd, "\xef\xbf\xbd"},
	{0xffff, "\xef\xbf\xbf"},
	{0x10000, "\xf0\x90\x80\x80"},
	{0x1f600, "\xf0\x9f\x98\x80"},
	{0x3ffff, "\xf0\xbf\xbf\xbf"},
	{0x40000, "\xf1\x80\x80\x80"},
	{0x10ffff, "\xf4\x8f\xbf\xbf"},
}

// Bytes that no rune's bytes begin with, longer forms, d800 to dfff, beyond 10ffff, a byte that can't follow.
var wrong = []string{
	"\x80", "\xbf", "\x80\x80", "\xc0", "\xc1", "\xf5", "\xf7", "\xf8", "\xfb", "\xfc", "\xfe", "\xff",
	"\xc0\x80", "\xc1\xbf", "\xe0\x80", "\xe0\x80\x80", "\xe0\x9f", "\xe0\x9f\xbf",
	"\xf0\x80", "\xf0\x8f", "\xf0\x80\x80\x80", "\xf0\x8f\xbf\xbf",
	"\xed\xa0", "\xed\xa0\x80", "\xed\xbf", "\xed\xbf\xbf",
	"\xf4\x90", "\xf4\x90\x80\x80", "\xf4\xbf", "\xf5\x80\x80\x80", "\xf8\x88\x80\x80\x80",
	"\xc3a", "\xc3\xc3", "\xc3\x7f", "\xc3\xc0", "\xe2a", "\xe2\x82a", "\xe2\x82\xe2", "\xf0\x9fa", "\xf0\x9f\x98a", "\xf0\x9f\x98\xf0",
}

var cut = []string{
	"\xc2", "\xdf", "\xe0", "\xe0\xa0", "\xe0\xbf", "\xe1", "\xe1\x80", "\xe2\x82", "\xed", "\xed\x80", "\xed\x9f", "\xef", "\xef\xbf",
	"\xf0", "\xf0\x90", "\xf0\x90\x80", "\xf0\xbf\xbf", "\xf3\xbf\xbf", "\xf4", "\xf4\x80", "\xf4\x8f", "\xf4\x8f\xbf",
}

// model knows the runes by their bytes, and what begins them: the chapter's words, taken from a list of all.
type model struct {
	runes  map[string]rune
	begins map[string]bool
}

func newModel() model {
	m := model{map[string]rune{}, map[string]bool{}}
	for r := rune(0); r <= 0x10ffff; r++ {
		if r >= 0xd800 && r <= 0xdfff {
			continue
		}
		s := string(r)
		m.runes[s] = r
		for k := 1; k < len(s); k++ {
			m.begins[s[:k]] = true
		}
	}
	return m
}

func (m model) rune(s string, at int) (rune, int, api.Errno) {
	if at < 0 || at >= len(s) {
		return 0, 0, api.ErrCut
	}
	for n := 1; n <= 4 && at+n <= len(s); n++ {
		if r, ok := m.runes[s[at:at+n]]; ok {
			return r, n, api.OK
		}
	}
	if m.begins[s[at:]] {
		return 0, 0, api.ErrCut
	}
	return 0, 0, api.ErrUtf
}

func (m model) all(s string) ([]rune, int, api.Errno) {
	var l []rune
	for at := 0; ; {
		if at == len(s) {
			return l, at, api.OK
		}
		r, n, err := m.rune(s, at)
		if err != api.OK {
			return l, at, err
		}
		l, at = append(l, r), at+n
	}
}

func (m model) whole(s string) int {
	for at := range len(s) {
		if m.begins[s[at:]] {
			return at
		}
	}
	return len(s)
}

func (m model) check(t *testing.T, s string) {
	t.Helper()
	for at := -1; at <= len(s)+1; at++ {
		r, n, err := Rune(s, at)
		if r1, n1, err1 := m.rune(s, at); r != r1 || n != n1 || err != err1 {
			t.Fatalf("Rune(%x, %d): %x %d %d, not %x %d %d", s, at, r, n, err, r1, n1, err1)
		}
	}
	l, at, err := All(s)
	if l1, at1, err1 := m.all(s); !slices.Equal(l, l1) || at != at1 || err != err1 {
		t.Fatalf("All(%x): %x %d %d, not %x %d %d", s, l, at, err, l1, at1, err1)
	}
	if n, n1 := Whole(s), m.whole(s); n != n1 {
		t.Fatalf("Whole(%x): %d, not %d", s, n, n1)
	}
}

// P1.1, P1.2 and P1: every text of few bytes, all of two and those of the edges' bytes of up to four, at every place.
func TestShortTexts(t *testing.T) {
	m := newModel()
	m.check(t, "")
	for a := range 256 {
		m.check(t, string([]byte{byte(a)}))
		for b := range 256 {
			m.check(t, string([]byte{byte(a), byte(b)}))
		}
	}
	bytes := "a\x7f\x80\x8f\x90\x9f\xa0\xbf\xc0\xc1\xc2\xdf\xe0\xe1\xed\xef\xf0\xf1\xf4\xf5\xff"
	for i := range bytes {
		for j := range bytes {
			for k := range bytes {
				three := string([]byte{bytes[i], bytes[j], bytes[k]})
				m.check(t, three)
				for n := range bytes {
					m.check(t, three+bytes[n:n+1])
				}
			}
		}
	}
}

// P1.1, P1.2 and P1: longer texts of runes and of wrong bytes.
func TestLongTexts(t *testing.T) {
	m := newModel()
	pieces := slices.Concat(wrong, cut)
	for _, e := range edges {
		pieces = append(pieces, e.s, e.s, e.s)
	}
	some := rand.New(rand.NewSource(1))
	for range 20000 {
		var b strings.Builder
		for range some.Intn(12) {
			b.WriteString(pieces[some.Intn(len(pieces))])
		}
		m.check(t, b.String())
	}
}

// P1.1, P1.2: each rune that there is.
func TestEveryRune(t *testing.T) {
	for r := rune(0); r <= 0x10ffff; r++ {
		if r >= 0xd800 && r <= 0xdfff {
			continue
		}
		s := Put(r)
		if s != string(r) {
			t.Fatalf("Put(%x): %x", r, s)
		}
		if x, n, err := Rune(s, 0); x != r || n != len(s) || err != api.OK {
			t.Fatalf("Rune(%x): %x %d %d", s, x, n, err)
		}
	}
}

// P1.1: Rune at the edges, within a text, and cut off.
func TestRuneEdges(t *testing.T) {
	for _, e := range edges {
		if r, n, err := Rune("\xff"+e.s+"\xff", 1); r != e.r || n != len(e.s) || err != api.OK {
			t.Errorf("%x: %x %d %d", e.s, r, n, err)
		}
		for k := 1; k < len(e.s); k++ {
			if r, n, err := Rune("é"+e.s[:k], 2); r != 0 || n != 0 || err != api.ErrCut {
				t.Errorf("%x: %x %d %d", e.s[:k], r, n, err)
			}
			if r, n, err := Rune(e.s[:k]+"a\x80\x80", 0); r != 0 || n != 0 || err != api.ErrUtf {
				t.Errorf("%x, a behind it: %x %d %d", e.s[:k], r, n, err)
			}
			if r, n, err := Rune(e.s, k); r != 0 || n != 0 || err != api.ErrUtf {
				t.Errorf("%x at %d: %x %d %d", e.s, k, r, n, err)
			}
		}
	}
}

// P1.1: wrong bytes are ErrUtf, alone and with more behind them; what begins a rune is ErrCut.
func TestRuneWrong(t *testing.T) {
	for _, s := range wrong {
		for _, more := range []string{"", "a", "\x80", "\xbf\xbf\xbf", "é"} {
			if r, n, err := Rune(s+more, 0); r != 0 || n != 0 || err != api.ErrUtf {
				t.Errorf("%x: %x %d %d", s+more, r, n, err)
			}
		}
	}
	for _, s := range cut {
		if r, n, err := Rune("a"+s, 1); r != 0 || n != 0 || err != api.ErrCut {
			t.Errorf("%x: %x %d %d", s, r, n, err)
		}
		if _, _, err := Rune(s+"a", 0); err != api.ErrUtf {
			t.Errorf("%x: %d", s+"a", err)
		}
	}
}

// P1.1, P1: a place that isn't within the text.
func TestRunePlace(t *testing.T) {
	for _, s := range []string{"", "a", "é", "\xff", "\xe2\x82"} {
		for _, at := range []int{math.MinInt, -2, -1, len(s), len(s) + 1, math.MaxInt - 1, math.MaxInt} {
			if r, n, err := Rune(s, at); r != 0 || n != 0 || err != api.ErrCut {
				t.Errorf("%x at %d: %x %d %d", s, at, r, n, err)
			}
		}
	}
}

// P1.1: All keeps the runes ahead of the error, and tells where it stands.
func TestAll(t *testing.T) {
	cases := []struct {
		s   string
		l   []rune
		at  int
		err api.Errno
	}{
		{"", nil, 0, api.OK},
		{"abc", []rune{'a', 'b', 'c'}, 3, api.OK},
		{"aé€😀", []rune{'a', 0xe9, 0x20ac, 0x1f600}, 10, api.OK},
		{"\xe2\x82", nil, 0, api.ErrCut},
		{"\xc0\x80", nil, 0, api.ErrUtf},
		{"aé\xff", []rune{'a', 0xe9}, 3, api.ErrUtf},
		{"aé\xe2\x82", []rune{'a', 0xe9}, 3, api.ErrCut},
		{"a\xe2\x82b", []rune{'a'}, 1, api.ErrUtf},
		{"a\xed\xa0\x80b", []rune{'a'}, 1, api.ErrUtf},
		{"€\xffa\xff", []rune{0x20ac}, 3, api.ErrUtf},
		{"\ufffd\x00", []rune{0xfffd, 0}, 4, api.OK},
	}
	for _, c := range cases {
		if l, at, err := All(c.s); !slices.Equal(l, c.l) || at != c.at || err != c.err {
			t.Errorf("%x: %x %d %d", c.s, l, at, err)
		}
	}
}

// P1.2: Put of the edges, of many, of none, and of what has no bytes.
func TestPut(t *testing.T) {
	var l []rune
	var want strings.Builder
	for _, e := range edges {
		if s := Put(e.r); s != e.s {
			t.Errorf("%x: %x", e.r, s)
		}
		l = append(l, e.r)
		want.WriteString(e.s)
	}
	if s := Put(l...); s != want.String() {
		t.Errorf("%x", s)
	}
	if s := Put(); s != "" {
		t.Errorf("%x", s)
	}
	for r := rune(0xd800); r <= 0xdfff; r++ {
		if s := Put(r); s != "\xef\xbf\xbd" {
			t.Errorf("%x: %x", r, s)
		}
	}
	for _, r := range []rune{math.MinInt32, -0x80, -1, 0x110000, 0x1fffff, 0x200000, math.MaxInt32} {
		if s := Put('a', r, 'b'); s != "a\xef\xbf\xbdb" {
			t.Errorf("%x: %x", r, s)
		}
	}
}

// What is handed in is not changed.
func TestPutKeepsItsList(t *testing.T) {
	l := []rune{-1, 'a', 0xd800, 0x110000}
	Put(l...)
	if !slices.Equal(l, []rune{-1, 'a', 0xd800, 0x110000}) {
		t.Error(l)
	}
}

// P1.2: Whole stands ahead of what begins a rune, and of nothing else.
func TestWhole(t *testing.T) {
	for _, front := range []string{"", "a", "é", "€", "😀", "\xff", "\x80\x80\x80\x80", "\xe2\x82", "\xf0"} {
		for _, s := range cut {
			if n := Whole(front + s); n != len(front) {
				t.Errorf("%x: %d", front+s, n)
			}
		}
		for _, e := range edges {
			if s := front + e.s; Whole(s) != len(s) {
				t.Errorf("%x: %d", s, Whole(s))
			}
		}
	}
	for _, s := range []string{"", "\x80", "\xc0", "\xc1", "\xf5", "\xff", "\xe0\x9f", "\xed\xa0", "\xf0\x8f", "\xf4\x90", "\xe2\x82a", "a\x80\x80\x80", "😀\x80"} {
		if Whole(s) != len(s) {
			t.Errorf("%x: %d", s, Whole(s))
		}
	}
}

// P1.3: what was put is decoded to the same.
func TestPutThenAll(t *testing.T) {
	some := rand.New(rand.NewSource(2))
	for range 2000 {
		l := make([]rune, some.Intn(20))
		for i := range l {
			l[i] = edges[some.Intn(len(edges))].r
		}
		s := Put(l...)
		if got, at, err := All(s); !slices.Equal(got, l) || at != len(s) || err != api.OK {
			t.Fatalf("%x: %x %d %d", l, got, at, err)
		}
	}
	l, _, err := All(Put('a', -1, 0xdfff, 0x110000))
	if !slices.Equal(l, []rune{'a', 0xfffd, 0xfffd, 0xfffd}) || err != api.OK {
		t.Errorf("%x %d", l, err)
	}
}

// decode decodes the chunks one by one: each cut at Whole, the rest laid ahead of the next one.
func decode(chunks ...string) ([]rune, int, api.Errno) {
	var out []rune
	rest, done := "", 0
	for i, c := range chunks {
		s := rest + c
		n := Whole(s)
		if i == len(chunks)-1 {
			n = len(s)
		}
		l, at, err := All(s[:n])
		out = append(out, l...)
		done += at
		if err != api.OK {
			return out, done, err
		}
		rest = s[n:]
	}
	return out, done, api.OK
}

// eachCut hands on the runes, the place and the error of s decoded in three chunks, for every two cuts.
func eachCut(s string, tell func(i, k int, l []rune, at int, err api.Errno)) {
	for i := range len(s) + 1 {
		for k := i; k <= len(s); k++ {
			l, at, err := decode(s[:i], s[i:k], s[k:])
			tell(i, k, l, at, err)
		}
	}
}

// P1.3: a text cut at every place, and at every two, is decoded as the whole is; so is one that ends with what begins a rune.
func TestCuts(t *testing.T) {
	texts := []string{"", "abc", "aé€😀z", "😀€éa", "\x7f\u0080\u07ff\u0800\uffff\U00010000\U0010ffff", Put(-1, 'a', 0xd800)}
	for _, s := range cut {
		texts = append(texts, s, "é"+s, "a€"+s)
	}
	for _, s := range texts {
		l, at, err := All(s)
		eachCut(s, func(i, k int, l1 []rune, at1 int, err1 api.Errno) {
			if !slices.Equal(l1, l) || at1 != at || err1 != err {
				t.Errorf("%x at %d, %d: %x %d %d, not %x %d %d", s, i, k, l1, at1, err1, l, at, err)
			}
		})
	}
}

// P1.3: of a wrong text the cuts keep the runes and the place. (Not always the error's number: c3 c3 is cut between the two, and its piece ends with what begins a rune.)
func TestCutsOfWrong(t *testing.T) {
	for _, w := range wrong {
		for _, s := range []string{w, "é" + w, w + "€", "a" + w + "😀"} {
			l, at, _ := All(s)
			eachCut(s, func(i, k int, l1 []rune, at1 int, err1 api.Errno) {
				if !slices.Equal(l1, l) || at1 != at || err1 == api.OK {
					t.Errorf("%x at %d, %d: %x %d %d, not %x %d", s, i, k, l1, at1, err1, l, at)
				}
			})
		}
	}
}

// P1.3: byte by byte.
func TestByteByByte(t *testing.T) {
	for _, e := range edges {
		s := "a" + e.s + "b" + e.s
		var chunks []string
		for i := range len(s) {
			chunks = append(chunks, s[i:i+1])
		}
		l, at, err := decode(chunks...)
		if !slices.Equal(l, []rune{'a', e.r, 'b', e.r}) || at != len(s) || err != api.OK {
			t.Errorf("%x: %x %d %d", s, l, at, err)
		}
	}
}
