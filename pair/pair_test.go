package pair

import (
	"math"
	"slices"
	"strings"
	"testing"

	"gluepot/api"
	"gluepot/sym"
)

func p(a, b int) api.Pair { return api.Pair{A: a, B: b} }

func item(a, b, count int) Item { return Item{Pair: p(a, b), Count: count} }

// joined makes a table of these joins.
func joined(t *testing.T, joins ...api.Pair) *sym.Table {
	t.Helper()
	x := sym.New()
	for _, j := range joins {
		if _, e := x.Join(j.A, j.B); e != api.OK {
			t.Fatalf("join of %v: %d", j, e)
		}
	}
	return x
}

// common is a table with 256 ba, 257 aa, 258 ab, 259 \xff\x00, 260 é, 261 aab: numbers that don't rise as their texts do.
func common(t *testing.T) *sym.Table {
	t.Helper()
	return joined(t, p('b', 'a'), p('a', 'a'), p('a', 'b'), p(0xff, 0), p(0xc3, 0xa9), p(257, 'b'))
}

// risingIDs are symbols of the common table, those that aren't there among them, rising by their texts; those of one list are alike.
func risingIDs() [][]int {
	return [][]int{
		{-1, math.MinInt, -256, 262, 99999, 1<<32 + 97, math.MaxInt},
		{0}, {1}, {' '}, {'A'}, {'a'}, {257}, {261}, {258}, {'b'}, {256}, {0x7f}, {0x80}, {0xc3}, {260}, {0xfe}, {0xff}, {259},
	}
}

// ranks are the places of the symbols' texts among all texts of risingIDs.
func ranks() map[int]int {
	m := map[int]int{}
	for rank, ids := range risingIDs() {
		for _, id := range ids {
			m[id] = rank
		}
	}
	return m
}

// modelLess goes byte by byte, a shorter text ahead of one that it begins.
func modelLess(a, b string) bool {
	for i := 0; i < len(a) && i < len(b); i++ {
		if a[i] != b[i] {
			return a[i] < b[i]
		}
	}
	return len(a) < len(b)
}

// modelBetter is the document's words, with texts of which it is asked whether each is less than the other.
func modelBetter(x *sym.Table, a, b Item) bool {
	if a.Count != b.Count {
		return a.Count > b.Count
	}
	aLeft, _ := x.Text(a.Pair.A)
	aRight, _ := x.Text(a.Pair.B)
	bLeft, _ := x.Text(b.Pair.A)
	bRight, _ := x.Text(b.Pair.B)
	if aLeft != bLeft {
		return modelLess(aLeft, bLeft)
	}
	return modelLess(aRight, bRight)
}

// modelBest asks of each item, from the first on, whether any is better.
func modelBest(x *sym.Table, l []Item) (Item, bool) {
	for _, a := range l {
		if !slices.ContainsFunc(l, func(b Item) bool { return modelBetter(x, b, a) }) {
			return a, true
		}
	}
	return Item{}, false
}

// modelSort takes the best again and again, the first of those that are alike.
func modelSort(x *sym.Table, l []Item) []Item {
	rest := slices.Clone(l)
	var out []Item
	for len(rest) > 0 {
		best, _ := modelBest(x, rest)
		out = append(out, best)
		at := slices.Index(rest, best)
		rest = slices.Delete(rest, at, at+1)
	}
	return out
}

func holdAhead(t *testing.T, x *sym.Table, a, b api.Pair, want bool) {
	t.Helper()
	if got := Ahead(x, a, b); got != want {
		t.Errorf("Ahead of %v, %v: %t; want %t", a, b, got, want)
	}
}

func holdBetter(t *testing.T, x *sym.Table, a, b Item, want bool) {
	t.Helper()
	if got := Better(x, a, b); got != want {
		t.Errorf("Better of %v, %v: %t; want %t", a, b, got, want)
	}
}

func holdBest(t *testing.T, x *sym.Table, l []Item, want Item, wantOK bool) {
	t.Helper()
	if got, ok := Best(x, l...); got != want || ok != wantOK {
		t.Errorf("Best of %v: %v, %t; want %v, %t", l, got, ok, want, wantOK)
	}
}

func holdSort(t *testing.T, x *sym.Table, l, want []Item) {
	t.Helper()
	if got := Sort(x, l); !slices.Equal(got, want) {
		t.Errorf("Sort of %v: %v; want %v", l, got, want)
	}
}

// P10.1: the chapter's examples, both ways round.
func TestExamples(t *testing.T) {
	x := sym.New()
	ab, ba := item('a', 'b', 3), item('b', 'a', 3)
	fewer := item('b', 'a', 2)
	holdBetter(t, x, ab, fewer, true)
	holdBetter(t, x, fewer, ab, false)
	holdBetter(t, x, ab, ba, true)
	holdBetter(t, x, ba, ab, false)
	holdBest(t, x, []Item{fewer, ba, ab}, ab, true)
	holdSort(t, x, []Item{fewer, ba, ab}, []Item{ab, ba, fewer})
	holdAhead(t, x, ab.Pair, ba.Pair, true)
	holdAhead(t, x, ba.Pair, ab.Pair, false)
}

// P10.1: by the left text and then the right one, of any bytes, and of symbols that aren't there.
func TestAheadByTexts(t *testing.T) {
	x := common(t)
	rank := ranks()
	var pairs []api.Pair
	for a := range rank {
		for b := range rank {
			pairs = append(pairs, p(a, b))
		}
	}
	for _, a := range pairs {
		for _, b := range pairs {
			left, right := rank[a.A]-rank[b.A], rank[a.B]-rank[b.B]
			holdAhead(t, x, a, b, left < 0 || left == 0 && right < 0)
		}
	}
}

// P10.1: the texts count one by one, not both together, and not the numbers.
func TestAheadSides(t *testing.T) {
	x := common(t)
	for _, y := range []struct {
		a, b api.Pair
		want bool
	}{
		// a ab, aa b: the same bytes together.
		{p('a', 258), p(257, 'b'), true},
		{p(257, 'b'), p('a', 258), false},
		// a ba, aa a: more together, and yet ahead.
		{p('a', 256), p(257, 'a'), true},
		{p(257, 'a'), p('a', 256), false},
		// b a, ba \x00.
		{p('b', 'a'), p(256, 0), true},
		{p(256, 0), p('b', 'a'), false},
		// ab, whose number is greater than that of ba.
		{p(258, 'z'), p(256, 'a'), true},
		{p('z', 258), p('z', 256), true},
		// aa, whose number is greater than that of b.
		{p(257, 'z'), p('b', 'a'), true},
		// The left one counts first.
		{p('a', 'z'), p('b', 'a'), true},
		{p('b', 'a'), p('a', 'z'), false},
		// The same pair isn't ahead of itself.
		{p('a', 'b'), p('a', 'b'), false},
		{p(257, 258), p(257, 258), false},
		// The empty text is ahead of any other, and alike to itself.
		{p(-1, 'z'), p(0, 0), true},
		{p(0, 0), p(-1, 'z'), false},
		{p(0, -1), p(0, 0), true},
		{p(0, 0), p(0, 300), false},
		{p(-1, 300), p(300, -1), false},
		{p(300, -1), p(-1, 300), false},
	} {
		holdAhead(t, x, y.a, y.b, y.want)
	}
}

// P10.1: what a symbol stands for is asked each time, so that one that is joined later counts from then on.
func TestLaterSymbols(t *testing.T) {
	x := sym.New()
	a, b := item(256, 'a', 1), item('a', 'a', 1)
	holdAhead(t, x, a.Pair, b.Pair, true)
	holdBest(t, x, []Item{b, a}, a, true)
	holdSort(t, x, []Item{b, a}, []Item{a, b})
	x.Join('b', 'a')
	holdAhead(t, x, a.Pair, b.Pair, false)
	holdAhead(t, x, b.Pair, a.Pair, true)
	holdBest(t, x, []Item{a, b}, b, true)
	holdSort(t, x, []Item{a, b}, []Item{b, a})
}

// P10.1: texts as long as they may be, that differ at their end alone.
func TestLongTexts(t *testing.T) {
	x := sym.New()
	half := int('a')
	for range 15 {
		half, _ = x.Join(half, half)
	}
	most, e := x.Join(half, half)
	if e != api.OK {
		t.Fatal(e)
	}
	// aa .. ab, of 32768 bytes.
	short := int('b')
	for i := range 15 {
		left, _ := x.Find(strings.Repeat("a", 1<<i))
		short, e = x.Join(left, short)
		if e != api.OK {
			t.Fatal(e)
		}
	}
	other, e := x.Join(half, short)
	if e != api.OK {
		t.Fatal(e)
	}
	if s, _ := x.Text(other); s != strings.Repeat("a", api.MaxWord-1)+"b" {
		t.Fatalf("%d bytes", len(s))
	}
	// other is ahead of short: it has an a where short has its b.
	rising := []Item{item(half, other, 1), item(most, most, 1), item(most, other, 1), item(other, half, 1), item(short, 'a', 1), item('b', 'a', 1)}
	for i, a := range rising {
		for j, b := range rising {
			holdAhead(t, x, a.Pair, b.Pair, i < j)
			holdBetter(t, x, a, b, i < j)
		}
	}
	falling := slices.Clone(rising)
	slices.Reverse(falling)
	holdSort(t, x, falling, rising)
	holdBest(t, x, falling, rising[0], true)
}

// P10.1: a greater count is better whatever the pairs, at all edges of the numbers; the same one asks which is ahead.
func TestBetterByCount(t *testing.T) {
	x := common(t)
	rising := []int{math.MinInt, math.MinInt + 1, -1 << 32, -2, -1, 0, 1, 2, 1 << 32, math.MaxInt - 1, math.MaxInt}
	pairs := []api.Pair{p('a', 'a'), p(257, 'b'), p('b', 'a'), p(-1, -1), p(99999, 'a')}
	for i, m := range rising {
		for j, n := range rising {
			for _, a := range pairs {
				for _, b := range pairs {
					want := i > j || i == j && Ahead(x, a, b)
					holdBetter(t, x, Item{Pair: a, Count: m}, Item{Pair: b, Count: n}, want)
				}
			}
		}
	}
	holdBetter(t, x, Item{}, Item{}, false)
	holdBest(t, x, []Item{item('a', 'a', math.MinInt), item('b', 'b', math.MaxInt), item('a', 'a', -1)}, item('b', 'b', math.MaxInt), true)
	holdSort(t, x, []Item{item(0, 0, math.MinInt), item(0, 0, math.MaxInt), item(0, 0, 0)}, []Item{item(0, 0, math.MaxInt), item(0, 0, 0), item(0, 0, math.MinInt)})
}

// P10.1: of no items, however they come.
func TestNone(t *testing.T) {
	for _, x := range []*sym.Table{nil, {}, sym.New(), common(t)} {
		if best, ok := Best(x); best != (Item{}) || ok {
			t.Error(best, ok)
		}
		for _, l := range [][]Item{nil, {}, []Item{item('a', 'b', 9)}[:0]} {
			holdBest(t, x, l, Item{}, false)
			holdSort(t, x, l, nil)
		}
	}
}

// P10.1: one item is the best, whatever it is.
func TestOne(t *testing.T) {
	x := common(t)
	for _, a := range []Item{{}, item('a', 'b', 3), item('a', 'b', 0), item('a', 'b', -1), item(-1, 99999, math.MinInt), item(math.MaxInt, math.MinInt, math.MaxInt)} {
		holdBest(t, x, []Item{a}, a, true)
		holdSort(t, x, []Item{a}, []Item{a})
	}
}

// P10.1: every short list, alike items that differ and symbols that aren't there among them, against the model.
func TestShortLists(t *testing.T) {
	x := common(t)
	of := []Item{item('a', 'b', 2), item('b', 'a', 2), item(257, 'a', 2), item('b', 'a', 3), item(-1, 'a', 2), item(99999, 'a', 2), item('a', -1, 2), item('a', math.MaxInt, 2), item('a', 'b', -1)}
	var grow func(l []Item)
	grow = func(l []Item) {
		best, ok := modelBest(x, l)
		holdBest(t, x, l, best, ok)
		holdSort(t, x, l, modelSort(x, l))
		if len(l) < 4 {
			for _, a := range of {
				grow(append(l[:len(l):len(l)], a))
			}
		}
	}
	grow(nil)
}

// P10.1: long lists, in which many are alike, keep those in their order.
func TestLongLists(t *testing.T) {
	x := common(t)
	for _, size := range []int{13, 21, 64, 300, 1000} {
		var l []Item
		for i := range size {
			switch i % 4 {
			case 0:
				// All of these are alike: symbols that aren't there, told apart by their numbers.
				l = append(l, item(-1-i, 1000+i, 5))
			case 1:
				l = append(l, item('a'+i*7%3, 'a'+i*i%5, i*31%6))
			case 2:
				l = append(l, item(256+i*5%6, 1000+i, 5-i%3))
			default:
				l = append(l, item(97+i*13%2, 256+i*11%6, -(i*17%4)))
			}
		}
		want := modelSort(x, l)
		best, _ := modelBest(x, l)
		holdSort(t, x, l, want)
		holdBest(t, x, l, best, true)
		holdSort(t, x, want, want)
		slices.Reverse(l)
		holdSort(t, x, l, modelSort(x, l))
		best, _ = modelBest(x, l)
		holdBest(t, x, l, best, true)
	}
}

// P10.1: in a nil table no symbol is there; a zero one has the 256 of one byte.
func TestNilAndZeroTables(t *testing.T) {
	l := []Item{item('b', 'a', 2), item('a', 'b', 2), item(256, 'a', 2), item(-1, 'b', 3), item('a', 'a', 3)}
	holdAhead(t, nil, p('a', 'a'), p('b', 'b'), false)
	holdAhead(t, nil, p('b', 'b'), p('a', 'a'), false)
	holdAhead(t, nil, p(-1, 0), p(0, -1), false)
	holdBetter(t, nil, l[1], l[0], false)
	holdBetter(t, nil, l[0], l[1], false)
	holdBetter(t, nil, l[3], l[0], true)
	holdBest(t, nil, l, l[3], true)
	holdBest(t, nil, l[:3], l[0], true)
	holdSort(t, nil, l, []Item{l[3], l[4], l[0], l[1], l[2]})
	zero := &sym.Table{}
	holdAhead(t, zero, p('a', 'b'), p('b', 'a'), true)
	holdAhead(t, zero, p(256, 'b'), p('a', 'a'), true)
	holdBetter(t, zero, l[1], l[0], true)
	holdBest(t, zero, l[:2], l[1], true)
	holdSort(t, zero, l, []Item{l[3], l[4], l[2], l[1], l[0]})
}

// R4: what is handed in stays as it is, what lies behind its length isn't read, and what is answered is new memory.
func TestMemory(t *testing.T) {
	x := common(t)
	merges := x.Merges()
	memory := []Item{item('b', 'a', 2), item('a', 'b', 2), item('a', 'a', 9), item('a', 'a', 8)}
	before := slices.Clone(memory)
	holdBest(t, x, memory[:2], before[1], true)
	holdSort(t, x, memory[:2], []Item{before[1], before[0]})
	first, second := Sort(x, memory[:2]), Sort(x, memory[:2])
	first[0], first[1] = item(1, 1, 1), item(2, 2, 2)
	_ = append(first, item(3, 3, 3))
	_ = append(Sort(x, memory[:0]), item(4, 4, 4))
	_ = append(Sort(x, memory[:1]), item(5, 5, 5))
	if !slices.Equal(memory, before) {
		t.Errorf("now %v", memory)
	}
	memory[0], memory[1] = item(6, 6, 6), item(7, 7, 7)
	if want := []Item{before[1], before[0]}; !slices.Equal(second, want) {
		t.Errorf("the second is %v now", second)
	}
	// Of a list that is sorted, too.
	again := Sort(x, second)
	again[0] = Item{}
	if second[0] != before[1] {
		t.Errorf("the second is %v now", second)
	}
	if x.Len() != 262 || !slices.Equal(x.Merges(), merges) {
		t.Errorf("the table has %d symbols now", x.Len())
	}
}

// R6: the same again, on the same state.
func TestSameAgain(t *testing.T) {
	x := common(t)
	l := []Item{item(-1, 'a', 2), item(300, 'a', 2), item('b', 'a', 2), item(257, 'a', 2), item('a', 'b', 1)}
	for range 20 {
		holdBest(t, x, l, l[0], true)
		holdSort(t, x, l, []Item{l[0], l[1], l[3], l[2], l[4]})
		holdAhead(t, x, l[3].Pair, l[2].Pair, true)
		holdBetter(t, x, l[4], l[0], false)
	}
}
