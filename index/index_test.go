package index

import (
	"math"
	"slices"
	"strings"
	"testing"

	"gluepot/api"
	"gluepot/table"
)

// model keeps the words as lists of numbers, counts all anew whenever it is asked, and remembers in which words each pair ever was.
type model struct {
	words   [][]int
	counts  []int
	ever    map[api.Pair][]bool
	touched int
}

func modelOf(l []api.Word) *model {
	m := &model{ever: map[api.Pair][]bool{}}
	for _, w := range l {
		var symbols []int
		for _, b := range []byte(w.Text) {
			symbols = append(symbols, int(b))
		}
		m.words = append(m.words, symbols)
		m.counts = append(m.counts, w.Count)
	}
	m.remember()
	return m
}

func (m *model) remember() {
	for i, symbols := range m.words {
		for j := 1; j < len(symbols); j++ {
			q := p(symbols[j-1], symbols[j])
			if m.ever[q] == nil {
				m.ever[q] = make([]bool, len(m.words))
			}
			m.ever[q][i] = true
		}
	}
}

// in tells the places of the words in which q is.
func (m *model) in(q api.Pair) []int {
	var l []int
	for i, symbols := range m.words {
		if times(symbols, q) > 0 {
			l = append(l, i)
		}
	}
	return l
}

func (m *model) all() map[api.Pair]int {
	found := map[api.Pair]int{}
	for i, symbols := range m.words {
		for j := 1; j < len(symbols); j++ {
			found[p(symbols[j-1], symbols[j])] += m.counts[i]
		}
	}
	return found
}

func (m *model) positions() int {
	n := 0
	for _, symbols := range m.words {
		n += len(symbols)
	}
	return n
}

// merge tells how many places go, and the pairs that another count anew finds otherwise.
func (m *model) merge(q api.Pair, symbol int) (int, []api.Pair) {
	was, long := m.all(), m.positions()
	for i, symbols := range m.words {
		var l []int
		for len(symbols) > 0 {
			if len(symbols) > 1 && symbols[0] == q.A && symbols[1] == q.B {
				l, symbols = append(l, symbol), symbols[2:]
			} else {
				l, symbols = append(l, symbols[0]), symbols[1:]
			}
		}
		m.words[i] = l
	}
	m.remember()
	is := m.all()
	var changed []api.Pair
	for pair, n := range is {
		if was[pair] != n {
			changed = append(changed, pair)
		}
	}
	for pair := range was {
		if is[pair] == 0 {
			changed = append(changed, pair)
		}
	}
	return long - m.positions(), rising(changed)
}

// times tells at how many places of a word q is, overlapping ones too.
func times(symbols []int, q api.Pair) int {
	n := 0
	for i := 0; i+1 < len(symbols); i++ {
		if symbols[i] == q.A && symbols[i+1] == q.B {
			n++
		}
	}
	return n
}

func rising(l []api.Pair) []api.Pair {
	slices.SortFunc(l, func(a, b api.Pair) int {
		if a.A < b.A || a.A == b.A && a.B < b.B {
			return -1
		}
		return 1
	})
	return l
}

func p(a, b int) api.Pair { return api.Pair{A: a, B: b} }

func w(text string, count int) api.Word { return api.Word{Text: text, Count: count} }

// made is the index of a table that is right, and its model.
func made(t *testing.T, l ...api.Word) (*Index, *model) {
	t.Helper()
	x, e := New(l)
	if x == nil || e != api.OK {
		t.Fatalf("New of %v: %v, %d", l, x, e)
	}
	m := modelOf(l)
	hold(t, x, m)
	return x, m
}

// tableOf is the table of the words of a text.
func tableOf(t *testing.T, text string) []api.Word {
	t.Helper()
	l, e := table.Of(strings.Fields(text)...)
	if e != api.OK {
		t.Fatal(e)
	}
	return l
}

// holdPair asks where a pair is, and how often.
func holdPair(t *testing.T, x *Index, m *model, q api.Pair, count int) {
	t.Helper()
	if n := x.Count(q); n != count {
		t.Errorf("Count of %v: %d; want %d", q, n, count)
	}
	l := x.Words(q)
	for i, place := range l {
		if i > 0 && place <= l[i-1] {
			t.Errorf("Words of %v don't rise: %v", q, l)
		}
		if ever := m.ever[q]; ever == nil || place < 0 || place >= len(ever) || !ever[place] {
			t.Errorf("Words of %v: %v; it never was in %d", q, l, place)
		}
	}
	for _, place := range m.in(q) {
		if !slices.Contains(l, place) {
			t.Errorf("Words of %v: %v; it is in %d", q, l, place)
		}
	}
}

// hold asks the index for all that it can tell.
func hold(t *testing.T, x *Index, m *model) {
	t.Helper()
	all := m.all()
	var pairs []api.Pair
	for q, n := range all {
		pairs = append(pairs, q)
		holdPair(t, x, m, q, n)
	}
	if l := x.Pairs(); !slices.Equal(l, rising(pairs)) {
		t.Errorf("Pairs: %v; want %v", l, pairs)
	}
	for q := range m.ever {
		if all[q] == 0 {
			holdPair(t, x, m, q, 0)
		}
	}
	for _, q := range []api.Pair{{}, p(-1, -1), p('a', 999), p(999, 'a'), p(math.MinInt, math.MaxInt)} {
		holdPair(t, x, m, q, all[q])
	}
	for i, symbols := range m.words {
		if l := x.Symbols(i); !slices.Equal(l, symbols) {
			t.Errorf("Symbols of %d: %v; want %v", i, l, symbols)
		}
	}
	for _, i := range []int{math.MinInt, -1, len(m.words), len(m.words) + 1, math.MaxInt} {
		if l := x.Symbols(i); len(l) != 0 {
			t.Errorf("Symbols of %d: %v; want none", i, l)
		}
	}
	if n := x.Positions(); n != m.positions() {
		t.Errorf("Positions: %d; want %d", n, m.positions())
	}
	if n := x.Touched(); n != m.touched {
		t.Errorf("Touched: %d; want %d", n, m.touched)
	}
}

// holdMerge merges in both, and holds what is told, and how many words were looked at: all in which the pair is, and none that Words didn't tell.
func holdMerge(t *testing.T, x *Index, m *model, q api.Pair, symbol int) {
	t.Helper()
	least, most, touched := len(m.in(q)), len(x.Words(q)), x.Touched()
	n, l := x.Merge(q, symbol)
	want, changed := m.merge(q, symbol)
	if n != want || !slices.Equal(l, changed) {
		t.Errorf("Merge of %v into %d: %d, %v; want %d, %v", q, symbol, n, l, want, changed)
	}
	if by := x.Touched() - touched; by < least || by > most {
		t.Errorf("Merge of %v into %d touched %d; want %d to %d", q, symbol, by, least, most)
	}
	m.touched = x.Touched()
	hold(t, x, m)
}

// P13.1, P13.2: the chapter's example.
func TestExample(t *testing.T) {
	x, m := made(t, w("ab", 2), w("cab", 1))
	if n := x.Count(p('a', 'b')); n != 3 {
		t.Errorf("a b %d times", n)
	}
	n, l := x.Merge(p('a', 'b'), 256)
	if n != 2 || !slices.Equal(l, []api.Pair{p(97, 98), p(99, 97), p(99, 256)}) {
		t.Errorf("%d, %v", n, l)
	}
	if x.Touched() != 2 || x.Positions() != 3 {
		t.Errorf("%d touched, %d positions", x.Touched(), x.Positions())
	}
	m.merge(p('a', 'b'), 256)
	m.touched = 2
	hold(t, x, m)
}

// P13.1: ordinary words, none, and words of any bytes.
func TestNew(t *testing.T) {
	every := make([]byte, 256)
	for i := range every {
		every[i] = byte(i)
	}
	for _, l := range [][]api.Word{
		nil,
		{},
		{w("a", 1)},
		{w("a", math.MaxInt)},
		{w("\x00", 1), w("\x00\x00", 2), w("\xff", 3), w("\xff\x00", 4), w("\xff\xff\xff", 5)},
		{w("aaa", 2), w("ab", 5), w("bab", 1), w("c", 9)},
		{w("low", 5), w("lower", 2), w("newest", 6), w("widest", 3)},
		{w("e\xcc\x81", 3), w("\xc3", 1), w("\xc3\xa9", 2), w("\xed\xa0\x80", 7)},
		{w(string(every), 3)},
		{w(strings.Repeat("ab", 500), 3), w(strings.Repeat("ba", 500), 4)},
	} {
		x, m := made(t, l...)
		if x.Touched() != 0 || x.Positions() != table.Positions(l) {
			t.Errorf("%d touched, %d positions of %v", x.Touched(), x.Positions(), l)
		}
		// What nothing was merged in is told just so: no pair can have been anywhere else.
		for q := range m.ever {
			if l := x.Words(q); !slices.Equal(l, m.in(q)) {
				t.Errorf("Words of %v: %v; want %v", q, l, m.in(q))
			}
		}
	}
}

// P13.1: tables that aren't right; of several causes the first, as layer 8 tells it.
func TestWrongTables(t *testing.T) {
	long := strings.Repeat("a", api.MaxWord+1)
	for i, y := range []struct {
		l []api.Word
		e api.Errno
	}{
		{[]api.Word{{}}, api.ErrArg},
		{[]api.Word{w("", 1)}, api.ErrArg},
		{[]api.Word{w("a", 0)}, api.ErrArg},
		{[]api.Word{w("a", -1)}, api.ErrArg},
		{[]api.Word{w("a", math.MinInt)}, api.ErrArg},
		{[]api.Word{w(long, 1)}, api.ErrWordTooLong},
		{[]api.Word{w(long, 0)}, api.ErrArg},
		{[]api.Word{w("b", 1), w("a", 1)}, api.ErrForm},
		{[]api.Word{w("a", 1), w("a", 1)}, api.ErrForm},
		{[]api.Word{w("b", 1), w("a", 0)}, api.ErrArg},
		{[]api.Word{w("b", 1), w(long, 1)}, api.ErrWordTooLong},
		{[]api.Word{w("b", 1), w("a", 1), w("c", 0)}, api.ErrForm},
		{[]api.Word{w("abc", 1<<62)}, api.ErrOverflow},
		{[]api.Word{w("ab", math.MaxInt), w("ac", 1)}, api.ErrOverflow},
		{[]api.Word{w("abc", 1<<62), w("ab", 1)}, api.ErrForm},
	} {
		if x, e := New(y.l); x != nil || e != y.e {
			t.Errorf("%d: %v, %d; want %d", i, x, e, y.e)
		}
		if _, e := table.Check(y.l); e != y.e {
			t.Errorf("%d: Check tells %d; want %d", i, e, y.e)
		}
	}
}

// P13.1, P13.2: the greatest word, and counts up to MaxCount.
func TestEdges(t *testing.T) {
	x, e := New([]api.Word{w(strings.Repeat("a", api.MaxWord), 1)})
	if e != api.OK || x.Count(p('a', 'a')) != api.MaxWord-1 || x.Positions() != api.MaxWord {
		t.Fatal(e)
	}
	// 2^16 symbols alike are halved sixteen times.
	left, symbol := int('a'), api.Bytes
	for long := api.MaxWord; long > 1; long /= 2 {
		n, _ := x.Merge(p(left, left), symbol)
		if n != long/2 || x.Positions() != long/2 || x.Count(p(symbol, symbol)) != long/2-1 {
			t.Fatal(long, n, x.Positions(), x.Count(p(symbol, symbol)))
		}
		left, symbol = symbol, symbol+1
	}
	if x.Touched() != 16 || len(x.Pairs()) != 0 || !slices.Equal(x.Symbols(0), []int{271}) {
		t.Error(x.Touched(), x.Pairs(), x.Symbols(0))
	}
	half := math.MaxInt / 2
	for _, l := range [][]api.Word{
		{w("ab", math.MaxInt)},
		{w("aaa", half)},
		{w("aaa", half), w("b", math.MaxInt), w("bb", 1)},
		{w("ab", half), w("abab", half/3-1), w("ba", half%3+1)},
		{w("aab", half-2), w("ab", 3), w("zab", 1)},
		// 2^63 - 1 is 7 times this count.
		{w("aaaaaaaa", math.MaxInt/7)},
		{w("abababab", math.MaxInt/7)},
	} {
		for _, q := range []api.Pair{p('a', 'a'), p('a', 'b'), p('b', 'a'), p('b', 'b')} {
			x, m := made(t, l...)
			holdMerge(t, x, m, q, 256)
			for symbol := 257; len(x.Pairs()) > 0 && !t.Failed(); symbol++ {
				holdMerge(t, x, m, x.Pairs()[0], symbol)
			}
		}
	}
}

// P13.2: by examples, one merge behind the other.
func TestMerge(t *testing.T) {
	x, m := made(t, w("aaa", 2), w("ab", 5), w("abc", 3), w("b", 7), w("bab", 1), w("cabab", 4))
	for i, y := range []struct {
		q       api.Pair
		symbol  int
		n       int
		changed []api.Pair
	}{
		// Not there: neither of symbols that are, nor of others, nor into anything.
		{p('b', 'b'), 300, 0, nil},
		{p(300, 301), 302, 0, nil},
		{p(math.MinInt, math.MaxInt), 0, 0, nil},
		{p('a', 'b'), 256, 5, []api.Pair{p('a', 'b'), p('b', 'a'), p('b', 'c'), p('b', 256), p('c', 'a'), p('c', 256), p(256, 'c'), p(256, 256)}},
		// It is gone, and so are its neighbours.
		{p('a', 'b'), 257, 0, nil},
		{p('b', 'c'), 257, 0, nil},
		{p('b', 'a'), 257, 0, nil},
		// Overlapping pairs: from the left, no symbol twice.
		{p('a', 'a'), 257, 1, []api.Pair{p('a', 'a'), p(257, 'a')}},
		{p('a', 'a'), 258, 0, nil},
		{p(256, 256), 258, 1, []api.Pair{p('c', 256), p('c', 258), p(256, 256)}},
		// Nothing beside it: one pair goes, none comes.
		{p(257, 'a'), 259, 1, []api.Pair{p(257, 'a')}},
		{p('c', 258), 260, 1, []api.Pair{p('c', 258)}},
		{p('b', 256), 261, 1, []api.Pair{p('b', 256)}},
		{p(256, 'c'), 262, 1, []api.Pair{p(256, 'c')}},
		{p(256, 'c'), 263, 0, nil},
	} {
		least, most, touched := len(m.in(y.q)), len(x.Words(y.q)), x.Touched()
		n, l := x.Merge(y.q, y.symbol)
		if n != y.n || !slices.Equal(l, y.changed) {
			t.Errorf("%d: %d, %v; want %d, %v", i, n, l, y.n, y.changed)
		}
		if by := x.Touched() - touched; by < least || by > most {
			t.Errorf("%d: touched %d; want %d to %d", i, by, least, most)
		}
		m.merge(y.q, y.symbol)
		m.touched = x.Touched()
		hold(t, x, m)
	}
	if len(x.Pairs()) != 0 || x.Positions() != 6 {
		t.Error(x.Pairs(), x.Positions())
	}
}

// P13.2: a merge is done in the words that have its pair, not in the others; a word's places count once, however often it is there.
func TestPlacesAndTouched(t *testing.T) {
	var l []api.Word
	for i := range 26 {
		l = append(l, w(string([]byte{byte('a' + i), '.', '.'}), 1000))
	}
	x, m := made(t, l...)
	for i := range 26 {
		q := p('a'+i, '.')
		if places := x.Words(q); !slices.Equal(places, []int{i}) {
			t.Errorf("Words of %v: %v", q, places)
		}
		if n, _ := x.Merge(q, 256+i); n != 1 || x.Touched() != i+1 || x.Positions() != 3*26-i-1 {
			t.Errorf("Merge of %v: %d; touched %d, positions %d", q, n, x.Touched(), x.Positions())
		}
		m.merge(q, 256+i)
		m.touched = i + 1
		// Its list is deleted with it: nothing is left to look at.
		if n, changed := x.Merge(q, 512); n != 0 || len(changed) != 0 || x.Touched() != i+1 || len(x.Words(q)) != 0 {
			t.Errorf("Merge of %v again: %d, %v; touched %d", q, n, changed, x.Touched())
		}
		hold(t, x, m)
	}
}

// chain merges each pair that is there, and some that aren't, and goes on from each of what came of it; an index has no copy, so that it is led to its place anew.
func chain(t *testing.T, l []api.Word, steps []api.Pair, depth int) {
	x, m := made(t, l...)
	for i, q := range steps {
		if i < len(steps)-1 {
			x.Merge(q, 256+i)
			m.merge(q, 256+i)
			m.touched = x.Touched()
		} else {
			holdMerge(t, x, m, q, 256+i)
		}
	}
	if t.Failed() {
		t.Fatalf("%v, by %v", l, steps)
	}
	if depth == 0 {
		return
	}
	next := x.Pairs()
	if len(steps) > 0 {
		next = append(next, steps[len(steps)-1])
	}
	for _, q := range append(next, p('b', 'a')) {
		chain(t, l, append(steps[:len(steps):len(steps)], q), depth-1)
	}
}

// shortWords are all words of a and b with up to so many bytes, rising.
func shortWords(most int) []string {
	l := []string{""}
	for at := 0; at < len(l); at++ {
		if len(l[at]) < most {
			l = append(l, l[at]+"a", l[at]+"b")
		}
	}
	l = l[1:]
	slices.Sort(l)
	return l
}

// P13.1, P13.2: every table of one short word, of two and of three shorter ones, by every short row of merges.
func TestShortTables(t *testing.T) {
	for _, a := range shortWords(6) {
		chain(t, []api.Word{w(a, 3)}, nil, 3)
	}
	l := shortWords(3)
	for i, a := range l {
		for j, b := range l[:i] {
			chain(t, []api.Word{w(b, 2), w(a, 5)}, nil, 3)
			for _, c := range l[:j] {
				chain(t, []api.Word{w(c, 1), w(b, 2), w(a, 5)}, nil, 2)
			}
		}
	}
}

// P13.1, P13.2: longer corpora, merged till no pair is left, in several orders.
func TestTillNothingIsLeft(t *testing.T) {
	for _, text := range []string{
		"low low low low low lower lower newest newest newest newest newest newest widest widest widest",
		"the quick brown fox jumps over the lazy dog and the other foxes jump over the other dogs",
		"abracadabra abraca dabra cad abra bra a ra br ab abab babab aaaa aaaaa bbbbbbb",
		"\xff\x00\xff \x00\x00\x00\x00 \xff\xff\x00 é日本 日本日本 \xe6\x97",
	} {
		for _, step := range []int{0, 1, 5, 7, 11} {
			x, m := made(t, tableOf(t, text)...)
			for symbol := api.Bytes; len(x.Pairs()) > 0; symbol++ {
				all := x.Pairs()
				holdMerge(t, x, m, all[symbol*step%len(all)], symbol)
				if t.Failed() {
					t.Fatal(text, step, symbol)
				}
			}
			if x.Positions() != len(m.words) {
				t.Error(x.Positions())
			}
		}
	}
}

// P13.2: a symbol may be any number that stands in no word, that of a byte among them.
func TestAnySymbol(t *testing.T) {
	for _, symbol := range []int{math.MinInt, -257, -1, 0, 1, 'd', 255, 256, 1 << 32, math.MaxInt - 1, math.MaxInt} {
		for _, q := range []api.Pair{p('a', 'b'), p('b', 'c'), p('c', 'a'), p('a', 'a'), p('x', 'y'), p(symbol, symbol), p(symbol, 'a')} {
			x, m := made(t, tableOf(t, "abc abc bca cab aab ccab abcabcabc b")...)
			holdMerge(t, x, m, q, symbol)
			for _, r := range x.Pairs() {
				if r.A == symbol || r.B == symbol {
					holdMerge(t, x, m, r, symbol/2+777)
					break
				}
			}
		}
	}
}

// P13.1, P13.2: a symbol that stood in words once, and stands in none now: the pairs that come back to words are there once, at places that rise.
func TestSymbolThatStoodOnce(t *testing.T) {
	x, m := made(t, w("wxcd", 1), w("xabcd", 2), w("xabe", 3), w("xabexcd", 4))
	holdMerge(t, x, m, p('a', 'b'), 256)
	holdMerge(t, x, m, p(256, 'c'), 257)
	holdMerge(t, x, m, p(256, 'e'), 258)
	// 256 stands in no word now; x 256 was in the last three, and comes to the first one and again to the last one.
	holdMerge(t, x, m, p('c', 'd'), 256)
	if n := x.Count(p('x', 256)); n != 5 {
		t.Errorf("x 256 %d times", n)
	}
	if l := m.in(p('x', 256)); !slices.Equal(l, []int{0, 3}) {
		t.Errorf("x 256 in %v", l)
	}
	holdMerge(t, x, m, p('x', 256), 259)
	// A byte's own number that was merged away.
	holdMerge(t, x, m, p('w', 259), 'a')
	holdMerge(t, x, m, p('x', 258), 'b')
	holdMerge(t, x, m, p('b', 259), 'c')
}

// P13.2: a symbol that stands in words: every call ends; beyond what the chapter promises, the index stays at one with its words.
func TestSymbolThatStands(t *testing.T) {
	for _, symbol := range []int{'a', 'b', 'c', 'x'} {
		for _, q := range []api.Pair{p('a', 'b'), p('b', 'a'), p('a', 'a'), p('b', 'c'), p('x', 'c')} {
			x, m := made(t, tableOf(t, "aab abb abab aaaa abc abc bca cabcab xaabbcx xc xxcc a")...)
			for range 4 {
				holdMerge(t, x, m, q, symbol)
			}
			holdMerge(t, x, m, p('a', 'b'), 256)
			holdMerge(t, x, m, p('b', 'c'), 256)
			holdMerge(t, x, m, p('x', 256), 'x')
		}
	}
}

// P13.1, P13.2: of a nil index.
func TestNil(t *testing.T) {
	var x *Index
	for range 2 {
		for _, q := range []api.Pair{{}, p('a', 'b'), p(math.MinInt, math.MaxInt)} {
			if n := x.Count(q); n != 0 {
				t.Error(q, n)
			}
			if l := x.Words(q); len(l) != 0 {
				t.Error(q, l)
			}
			for _, n := range []int{math.MinInt, -1, 0, 1, 256, math.MaxInt} {
				if taken, l := x.Merge(q, n); taken != 0 || len(l) != 0 {
					t.Error(q, n, taken, l)
				}
				if l := x.Symbols(n); len(l) != 0 {
					t.Error(n, l)
				}
			}
		}
		if l := x.Pairs(); len(l) != 0 || x.Positions() != 0 || x.Touched() != 0 {
			t.Error(l, x.Positions(), x.Touched())
		}
	}
}

// R4: a table that is handed in stays as it is, isn't kept, and what lies behind its length isn't read.
func TestArgumentMemory(t *testing.T) {
	memory := []api.Word{w("ab", 2), w("cab", 1), w("", -1), w("a", 0)}
	ahead := slices.Clone(memory)
	x, m := made(t, memory[:2]...)
	if !slices.Equal(memory, ahead) {
		t.Errorf("now %v", memory)
	}
	clear(memory)
	hold(t, x, m)
	holdMerge(t, x, m, p('a', 'b'), 256)
	if slices.ContainsFunc(memory, func(y api.Word) bool { return y != api.Word{} }) {
		t.Errorf("now %v", memory)
	}
}

// R4: what is answered may be written over, and stays as it is when words are merged.
func TestAnswersMemory(t *testing.T) {
	x, m := made(t, w("ab", 2), w("abab", 3), w("cab", 1))
	spoil := func() {
		for range 2 {
			pairs := x.Pairs()
			places := x.Words(p('a', 'b'))
			symbols := x.Symbols(1)
			for i := range pairs {
				pairs[i] = p(9, 9)
			}
			for i := range places {
				places[i] = 7
			}
			for i := range symbols {
				symbols[i] = 'z'
			}
			_ = append(pairs[:0], p(8, 8), p(8, 8), p(8, 8), p(8, 8))
			_ = append(places[:0], 8, 8, 8, 8)
			_ = append(symbols[:0], 8, 8, 8, 8)
		}
		hold(t, x, m)
	}
	spoil()
	pairs, places, symbols := x.Pairs(), x.Words(p('a', 'b')), x.Symbols(1)
	_, changed := x.Merge(p('a', 'b'), 256)
	m.merge(p('a', 'b'), 256)
	m.touched = x.Touched()
	if !slices.Equal(pairs, []api.Pair{p('a', 'b'), p('b', 'a'), p('c', 'a')}) || !slices.Equal(places, []int{0, 1, 2}) || !slices.Equal(symbols, []int{'a', 'b', 'a', 'b'}) {
		t.Errorf("now %v, %v, %v", pairs, places, symbols)
	}
	for i := range changed {
		changed[i] = p(9, 9)
	}
	hold(t, x, m)
	spoil()
	if places := x.Words(p(256, 256)); len(places) > 0 {
		places[0] = 9
	}
	holdMerge(t, x, m, p(256, 256), 257)
}

// R6: the same again, and two indexes that share nothing.
func TestSameAgain(t *testing.T) {
	l := tableOf(t, "the quick brown fox jumps over the lazy dog and the other foxes")
	first, m := made(t, l...)
	var told [][]api.Pair
	for symbol := api.Bytes; len(first.Pairs()) > 0; symbol++ {
		all := first.Pairs()
		_, changed := first.Merge(all[symbol*7%len(all)], symbol)
		told = append(told, changed)
	}
	for range 20 {
		again, _ := New(l)
		hold(t, again, m)
		for i, want := range told {
			all := again.Pairs()
			if _, changed := again.Merge(all[(api.Bytes+i)*7%len(all)], api.Bytes+i); !slices.Equal(changed, want) {
				t.Fatalf("%d: %v; ahead %v", i, changed, want)
			}
		}
		if again.Touched() != first.Touched() || again.Positions() != first.Positions() {
			t.Fatal(again.Touched(), again.Positions())
		}
	}
	if first.Positions() != len(l) {
		t.Error(first.Positions())
	}
}
