package sym

import (
	"fmt"
	"math"
	"slices"
	"strings"
	"testing"

	"gluepot/api"
)

// model works a table out by the document's own words: a list of all texts, each looked for from the first on.
type model struct {
	texts  []string
	pairs  []api.Pair
	merges []api.Merge
}

func newModel() *model {
	m := &model{}
	for b := range 256 {
		m.texts = append(m.texts, string([]byte{byte(b)}))
		m.pairs = append(m.pairs, api.Pair{})
	}
	return m
}

func (m *model) join(a, b int) (int, api.Errno) {
	if a < 0 || b < 0 || a >= len(m.texts) || b >= len(m.texts) {
		return 0, api.ErrArg
	}
	left, right := m.texts[a], m.texts[b]
	if len(left)+len(right) > 65536 {
		return 0, api.ErrWordTooLong
	}
	if slices.Contains(m.texts, left+right) {
		return 0, api.ErrRepeat
	}
	m.texts = append(m.texts, left+right)
	m.pairs = append(m.pairs, api.Pair{A: a, B: b})
	m.merges = append(m.merges, api.Merge{Left: left, Right: right})
	return len(m.texts) - 1, api.OK
}

// tell writes merges for a message, long texts shortened.
func tell(l []api.Merge) string {
	var b strings.Builder
	for _, m := range l {
		fmt.Fprintf(&b, "(%.20q %.20q)", m.Left, m.Right)
	}
	return b.String()
}

func holdText(t *testing.T, x *Table, id int, want string, wantOK bool) {
	t.Helper()
	if s, ok := x.Text(id); s != want || ok != wantOK {
		t.Errorf("Text of %d: %.40q, %t; want %.40q, %t", id, s, ok, want, wantOK)
	}
}

func holdFind(t *testing.T, x *Table, text string, want int, wantOK bool) {
	t.Helper()
	if id, ok := x.Find(text); id != want || ok != wantOK {
		t.Errorf("Find of %.40q: %d, %t; want %d, %t", text, id, ok, want, wantOK)
	}
}

func holdPair(t *testing.T, x *Table, id int, want api.Pair, wantOK bool) {
	t.Helper()
	if p, ok := x.Pair(id); p != want || ok != wantOK {
		t.Errorf("Pair of %d: %v, %t; want %v, %t", id, p, ok, want, wantOK)
	}
}

func holdMerges(t *testing.T, x *Table, want []api.Merge) {
	t.Helper()
	if l := x.Merges(); !slices.Equal(l, want) {
		t.Errorf("Merges: %s; want %s", tell(l), tell(want))
	}
}

func holdJoin(t *testing.T, x *Table, a, b, want int, wantE api.Errno) {
	t.Helper()
	if id, e := x.Join(a, b); id != want || e != wantE {
		t.Errorf("Join of %d, %d: %d, %d; want %d, %d", a, b, id, e, want, wantE)
	}
}

// beyond are numbers of which a table with that many symbols has none.
func beyond(size int) []int {
	return []int{math.MinInt, math.MinInt + 1, -257, -256, -255, -1, size, size + 1, 2 * size, 1 << 32, 1<<32 + 97, 1<<62 + 97, math.MaxInt - 255, math.MaxInt}
}

// hold asks the table for all that it can tell, of symbols that aren't there too.
func hold(t *testing.T, x *Table, m *model) {
	t.Helper()
	if n := x.Len(); n != len(m.texts) {
		t.Errorf("Len: %d; want %d", n, len(m.texts))
	}
	for id, text := range m.texts {
		holdText(t, x, id, text, true)
		holdFind(t, x, text, id, true)
		holdPair(t, x, id, m.pairs[id], id >= 256)
	}
	for _, id := range beyond(len(m.texts)) {
		holdText(t, x, id, "", false)
		holdPair(t, x, id, api.Pair{}, false)
	}
	for _, text := range []string{"", "not there", "\x00\x00\x00", "é", "\xff\xff\xff"} {
		holdFind(t, x, text, 0, false)
	}
	holdMerges(t, x, m.merges)
}

// holdJoins joins in the table and in the model, and looks at all behind each.
func holdJoins(t *testing.T, x *Table, m *model, joins []api.Pair) {
	t.Helper()
	for _, p := range joins {
		want, wantE := m.join(p.A, p.B)
		holdJoin(t, x, p.A, p.B, want, wantE)
		hold(t, x, m)
	}
}

// P9.1, P9.2: the 256 symbols, each the text of its byte, and none that was joined.
func TestNew(t *testing.T) {
	x := New()
	if x == nil || x.Len() != 256 {
		t.Fatal("a new table hasn't 256 symbols")
	}
	hold(t, x, newModel())
	other := New()
	holdJoin(t, x, 97, 98, 256, api.OK)
	hold(t, other, newModel())
	hold(t, New(), newModel())
	holdText(t, x, 97, "a", true)
	holdText(t, x, 0, "\x00", true)
	holdText(t, x, 128, "\x80", true)
	holdText(t, x, 255, "\xff", true)
}

// P9.1, P9.2: by examples, with what is there behind each.
func TestJoin(t *testing.T) {
	x, m := New(), newModel()
	for _, y := range []struct {
		a, b, id int
		e        api.Errno
		text     string
	}{
		{97, 98, 256, api.OK, "ab"},
		{97, 98, 0, api.ErrRepeat, "ab"},
		{98, 97, 257, api.OK, "ba"},
		{256, 99, 258, api.OK, "abc"},
		{98, 99, 259, api.OK, "bc"},
		// The text counts, not the pair: a bc behind ab c.
		{97, 259, 0, api.ErrRepeat, "abc"},
		{97, 97, 260, api.OK, "aa"},
		{260, 97, 261, api.OK, "aaa"},
		{97, 260, 0, api.ErrRepeat, "aaa"},
		{260, 260, 262, api.OK, "aaaa"},
		{97, 261, 0, api.ErrRepeat, "aaaa"},
		{0, 0, 263, api.OK, "\x00\x00"},
		{255, 0, 264, api.OK, "\xff\x00"},
		{0, 255, 265, api.OK, "\x00\xff"},
		// Two bytes of one rune are a text of two bytes.
		{0xc3, 0xa4, 266, api.OK, "ä"},
		// The symbol that comes next isn't there yet.
		{267, 97, 0, api.ErrArg, ""},
		{97, 267, 0, api.ErrArg, ""},
		{267, 267, 0, api.ErrArg, ""},
		{-1, 97, 0, api.ErrArg, ""},
		{97, -1, 0, api.ErrArg, ""},
		{266, 266, 267, api.OK, "ää"},
		{267, 97, 268, api.OK, "ääa"},
	} {
		holdJoin(t, x, y.a, y.b, y.id, y.e)
		m.join(y.a, y.b)
		hold(t, x, m)
		if y.e == api.OK {
			holdText(t, x, y.id, y.text, true)
			holdFind(t, x, y.text, y.id, true)
			holdPair(t, x, y.id, api.Pair{A: y.a, B: y.b}, true)
		}
	}
	holdMerges(t, x, []api.Merge{{Left: "a", Right: "b"}, {Left: "b", Right: "a"}, {Left: "ab", Right: "c"}, {Left: "b", Right: "c"}, {Left: "a", Right: "a"}, {Left: "aa", Right: "a"}, {Left: "aa", Right: "aa"}, {Left: "\x00", Right: "\x00"}, {Left: "\xff", Right: "\x00"}, {Left: "\x00", Right: "\xff"}, {Left: "\xc3", Right: "\xa4"}, {Left: "ä", Right: "ä"}, {Left: "ää", Right: "a"}})
}

// P9.1: ErrArg wherever one isn't there, and nothing changes by it.
func TestJoinNotThere(t *testing.T) {
	x, m := New(), newModel()
	for range 3 {
		for _, id := range beyond(len(m.texts)) {
			holdJoin(t, x, id, 97, 0, api.ErrArg)
			holdJoin(t, x, 97, id, 0, api.ErrArg)
			holdJoin(t, x, id, id, 0, api.ErrArg)
			holdJoin(t, x, len(m.texts)-1, id, 0, api.ErrArg)
			holdJoin(t, x, id, -1, 0, api.ErrArg)
		}
		hold(t, x, m)
		holdJoins(t, x, m, []api.Pair{{A: len(m.texts) - 1, B: 98}})
	}
}

// P9.1: both texts may have MaxWord bytes together, and no more; the other errors keep their places.
func TestJoinTooLong(t *testing.T) {
	x, m := New(), newModel()
	// 1, 2, 4 .. 65536 bytes.
	last := 97
	for range 16 {
		id, e := x.Join(last, last)
		if e != api.OK {
			t.Fatal(e)
		}
		m.join(last, last)
		last = id
	}
	holdText(t, x, last, strings.Repeat("a", api.MaxWord), true)
	half := last - 1
	holdJoins(t, x, m, []api.Pair{
		{A: last, B: 97}, {A: 97, B: last}, {A: last, B: last}, {A: last, B: half}, {A: 98, B: last}, {A: last, B: 0},
		// One that isn't there is named ahead of a text that would be too long, on either side.
		{A: last, B: -1}, {A: last + 1, B: last}, {A: math.MaxInt, B: last},
		// What is just long enough is still looked for.
		{A: half, B: half},
		{A: half, B: 98},
	})
	// 32769 bytes and 32768: one too many.
	longer, _ := x.Find(strings.Repeat("a", api.MaxWord/2) + "b")
	holdJoins(t, x, m, []api.Pair{{A: longer, B: half}, {A: half, B: longer}, {A: longer, B: longer}})
	// 16384 + 8192 + .. + 1 bytes.
	sum := half - 1
	for id := half - 2; id >= 256; id-- {
		next, e := x.Join(sum, id)
		if e != api.OK {
			t.Fatal(e)
		}
		m.join(sum, id)
		sum = next
	}
	holdJoins(t, x, m, []api.Pair{{A: sum, B: 97}})
	shorter := x.Len() - 1
	holdText(t, x, shorter, strings.Repeat("a", api.MaxWord/2-1), true)
	// 32767 bytes and 32769: as many as may be, on both sides.
	holdJoins(t, x, m, []api.Pair{{A: shorter, B: longer}, {A: longer, B: shorter}, {A: shorter, B: half}, {A: longer, B: sum}, {A: longer, B: shorter}})
	if n, ok := x.Find(strings.Repeat("a", api.MaxWord+1)); n != 0 || ok {
		t.Error(n, ok)
	}
}

// P9.1, P9.2: every short row of joins, of symbols that aren't there among them, against the model.
func TestShortRows(t *testing.T) {
	of := []int{97, 98, 256, 257, 258, -1}
	var pairs []api.Pair
	for _, a := range of {
		for _, b := range of {
			pairs = append(pairs, api.Pair{A: a, B: b})
		}
	}
	var grow func(row []api.Pair)
	grow = func(row []api.Pair) {
		x, m := New(), newModel()
		for _, p := range row {
			want, wantE := m.join(p.A, p.B)
			holdJoin(t, x, p.A, p.B, want, wantE)
		}
		for id := 256; id < len(m.texts); id++ {
			holdText(t, x, id, m.texts[id], true)
			holdFind(t, x, m.texts[id], id, true)
			holdPair(t, x, id, m.pairs[id], true)
		}
		holdText(t, x, len(m.texts), "", false)
		holdPair(t, x, len(m.texts), api.Pair{}, false)
		holdMerges(t, x, m.merges)
		if x.Len() != len(m.texts) {
			t.Errorf("%v: Len %d; want %d", row, x.Len(), len(m.texts))
		}
		if len(row) < 3 {
			for _, p := range pairs {
				grow(append(row[:len(row):len(row)], p))
			}
		}
	}
	grow(nil)
}

// P9.1, P9.2: many joins, of which many are repeats, by a rule of numbers.
func TestManyJoins(t *testing.T) {
	x, m := New(), newModel()
	repeats := 0
	for i := range 1500 {
		size := len(m.texts)
		a, b := 97+i*i%3, 97+i/2%3
		if i%2 == 1 {
			// The last of these isn't there yet.
			a = 256 + i*7919%(size-255)
		}
		want, wantE := m.join(a, b)
		holdJoin(t, x, a, b, want, wantE)
		if wantE == api.ErrRepeat {
			repeats++
		}
	}
	hold(t, x, m)
	if repeats < 100 || len(m.texts) < 300 {
		t.Errorf("%d repeats, %d symbols: these joins try too little", repeats, len(m.texts))
	}
}

// P9.1: every two bytes may be joined, each pair once.
func TestAllPairs(t *testing.T) {
	x := New()
	for a := range 256 {
		for b := range 256 {
			holdJoin(t, x, a, b, 256+256*a+b, api.OK)
		}
	}
	for a := range 256 {
		for b := range 256 {
			holdJoin(t, x, a, b, 0, api.ErrRepeat)
			holdText(t, x, 256+256*a+b, string([]byte{byte(a), byte(b)}), true)
			holdFind(t, x, string([]byte{byte(a), byte(b)}), 256+256*a+b, true)
			holdPair(t, x, 256+256*a+b, api.Pair{A: a, B: b}, true)
		}
	}
	if n := x.Len(); n != 256+65536 || len(x.Merges()) != 65536 {
		t.Error(n, len(x.Merges()))
	}
}

// P9.2: of a nil table.
func TestNil(t *testing.T) {
	var x *Table
	for _, id := range append(beyond(256), 0, 97, 255, 256) {
		holdJoin(t, x, id, 97, 0, api.ErrArg)
		holdJoin(t, x, 97, id, 0, api.ErrArg)
		holdText(t, x, id, "", false)
		holdPair(t, x, id, api.Pair{}, false)
	}
	for _, text := range []string{"", "a", "ab", "\x00", "\xff"} {
		holdFind(t, x, text, 0, false)
	}
	holdMerges(t, x, nil)
	if n := x.Len(); n != 0 {
		t.Error(n)
	}
}

// P9.2: a zero table has the 256 symbols, and joins.
func TestZero(t *testing.T) {
	var x Table
	m := newModel()
	hold(t, &x, m)
	holdJoins(t, &x, m, []api.Pair{{A: 256, B: 97}, {A: 97, B: 98}, {A: 97, B: 98}, {A: 256, B: 256}})
	hold(t, &Table{}, newModel())
}

// P9.2, R4: the merges are new memory each time, and stay when symbols are joined.
func TestMergesMemory(t *testing.T) {
	x, m := New(), newModel()
	holdJoins(t, x, m, []api.Pair{{A: 97, B: 98}, {A: 256, B: 99}})
	want := slices.Clone(m.merges)
	first, second := x.Merges(), x.Merges()
	first[0], first[1] = api.Merge{Left: "x", Right: "y"}, api.Merge{}
	_ = append(first[:0], api.Merge{Left: "z"})
	if !slices.Equal(second, want) {
		t.Errorf("the second is %s now", tell(second))
	}
	hold(t, x, m)
	_ = append(x.Merges(), api.Merge{Left: "behind"})
	holdJoins(t, x, m, []api.Pair{{A: 99, B: 256}})
	if !slices.Equal(second, want) {
		t.Errorf("the second is %s now", tell(second))
	}
}

// R6: the same again, on the same state.
func TestSameAgain(t *testing.T) {
	for range 20 {
		x, m := New(), newModel()
		joins := []api.Pair{{A: 97, B: 98}, {A: 98, B: 99}, {A: 256, B: 99}, {A: 97, B: 257}, {A: 97, B: 98}, {A: 300, B: 97}, {A: 258, B: 258}}
		for range 3 {
			holdJoins(t, x, m, joins)
		}
	}
}
