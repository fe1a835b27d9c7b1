package freq

import (
	"fmt"
	"math"
	"math/big"
	"slices"
	"strconv"
	"strings"
	"testing"

	"gluepot/api"
)

// model works a counter out by the document's own words: in a list that is kept rising, with numbers that have no end.
type model []api.Word

func (m *model) add(word string, n int) api.Errno {
	if word == "" || n < 1 {
		return api.ErrArg
	}
	place := 0
	for place < len(*m) && (*m)[place].Text < word {
		place++
	}
	if place == len(*m) || (*m)[place].Text != word {
		*m = slices.Insert(*m, place, api.Word{Text: word, Count: n})
		return api.OK
	}
	sum := new(big.Int).Add(big.NewInt(int64((*m)[place].Count)), big.NewInt(int64(n)))
	if sum.Cmp(big.NewInt(api.MaxCount)) > 0 {
		return api.ErrOverflow
	}
	(*m)[place].Count = int(sum.Int64())
	return api.OK
}

func words(l ...api.Word) []api.Word { return l }

func word(text string, count int) api.Word { return api.Word{Text: text, Count: count} }

// tell writes lists of words for a message, long words shortened.
func tell(lists ...[]api.Word) string {
	var b strings.Builder
	for i, l := range lists {
		if i > 0 {
			b.WriteString(" | ")
		}
		for _, w := range l {
			fmt.Fprintf(&b, "(%.20q %d)", w.Text, w.Count)
		}
	}
	return b.String()
}

// hold asks the counter for all that it can tell.
func hold(t *testing.T, c *Counter, want []api.Word) {
	t.Helper()
	if l := c.Freeze(); !slices.Equal(l, want) {
		t.Errorf("Freeze: %s; want %s", tell(l), tell(want))
	}
	if n := c.Len(); n != len(want) {
		t.Errorf("Len: %d; want %d", n, len(want))
	}
	for _, w := range want {
		if n := c.Count(w.Text); n != w.Count {
			t.Errorf("Count of %.40q: %d; want %d", w.Text, n, w.Count)
		}
	}
	for _, text := range []string{"", "not there", "\x00\x00\x00", "a\xffz"} {
		if n := c.Count(text); n != 0 {
			t.Errorf("Count of %q: %d; want 0", text, n)
		}
	}
}

func holdMerge(t *testing.T, l [][]api.Word, want []api.Word, wantE api.Errno) {
	t.Helper()
	if got, e := Merge(l...); e != wantE || !slices.Equal(got, want) {
		t.Errorf("Merge of %s: %s, %d; want %s, %d", tell(l...), tell(got), e, tell(want), wantE)
	}
}

// eachList hands do every list of at most size of these words.
func eachList(of []api.Word, size int, do func([]api.Word)) {
	var grow func(list []api.Word)
	grow = func(list []api.Word) {
		do(list)
		if len(list) < size {
			for _, w := range of {
				grow(append(list[:len(list):len(list)], w))
			}
		}
	}
	grow(nil)
}

// P7.1: a counter without words.
func TestNew(t *testing.T) {
	hold(t, New(), nil)
	one, other := New(), New()
	if one == nil || one.Add("a", 1) != api.OK {
		t.Fatal("a new counter takes no word")
	}
	hold(t, one, words(word("a", 1)))
	hold(t, other, nil)
	hold(t, New(), nil)
}

// P7.1: one Add behind the other, with what is there behind each.
func TestAdd(t *testing.T) {
	c := New()
	for i, x := range []struct {
		word string
		n    int
		e    api.Errno
		want []api.Word
	}{
		{"", 1, api.ErrArg, nil},
		{"", 0, api.ErrArg, nil},
		{"b", 0, api.ErrArg, nil},
		{"b", -1, api.ErrArg, nil},
		{"b", math.MinInt, api.ErrArg, nil},
		{"b", 1, api.OK, words(word("b", 1))},
		{"b", 2, api.OK, words(word("b", 3))},
		{"a", math.MaxInt, api.OK, words(word("a", math.MaxInt), word("b", 3))},
		{"a", 1, api.ErrOverflow, words(word("a", math.MaxInt), word("b", 3))},
		{"a", math.MaxInt, api.ErrOverflow, words(word("a", math.MaxInt), word("b", 3))},
		// ErrArg is looked for ahead of ErrOverflow, and a number below 0 takes nothing away.
		{"a", 0, api.ErrArg, words(word("a", math.MaxInt), word("b", 3))},
		{"a", -5, api.ErrArg, words(word("a", math.MaxInt), word("b", 3))},
		{"", math.MaxInt, api.ErrArg, words(word("a", math.MaxInt), word("b", 3))},
		{"b", math.MaxInt - 2, api.ErrOverflow, words(word("a", math.MaxInt), word("b", 3))},
		// Each count has a bound of its own, not their sum.
		{"b", math.MaxInt - 3, api.OK, words(word("a", math.MaxInt), word("b", math.MaxInt))},
		{"b", 1, api.ErrOverflow, words(word("a", math.MaxInt), word("b", math.MaxInt))},
		{"c", 1, api.OK, words(word("a", math.MaxInt), word("b", math.MaxInt), word("c", 1))},
	} {
		if e := c.Add(x.word, x.n); e != x.e {
			t.Errorf("%d: Add of %q, %d: %d; want %d", i, x.word, x.n, e, x.e)
		}
		hold(t, c, x.want)
	}
}

// P7.1: each word once, up to the first error; those ahead of it stay.
func TestAddAll(t *testing.T) {
	for _, x := range []struct {
		l    []string
		e    api.Errno
		want []api.Word
	}{
		{nil, api.OK, words(word("full", math.MaxInt))},
		{[]string{}, api.OK, words(word("full", math.MaxInt))},
		{[]string{"b", "a", "b"}, api.OK, words(word("a", 1), word("b", 2), word("full", math.MaxInt))},
		{[]string{""}, api.ErrArg, words(word("full", math.MaxInt))},
		{[]string{"", "a"}, api.ErrArg, words(word("full", math.MaxInt))},
		{[]string{"x", "", "y"}, api.ErrArg, words(word("full", math.MaxInt), word("x", 1))},
		{[]string{"x", "x", "full", "y"}, api.ErrOverflow, words(word("full", math.MaxInt), word("x", 2))},
		{[]string{"full", ""}, api.ErrOverflow, words(word("full", math.MaxInt))},
		{[]string{"", "full"}, api.ErrArg, words(word("full", math.MaxInt))},
	} {
		c := New()
		c.Add("full", math.MaxInt)
		if e := c.AddAll(x.l...); e != x.e {
			t.Errorf("AddAll of %q: %d; want %d", x.l, e, x.e)
		}
		hold(t, c, x.want)
	}
	c := New()
	if e := c.AddAll("b", "a", "b"); e != api.OK {
		t.Error(e)
	}
	hold(t, c, words(word("a", 1), word("b", 2)))
	if e := c.AddAll(); e != api.OK {
		t.Error(e)
	}
	if e := c.AddAll("b"); e != api.OK {
		t.Error(e)
	}
	hold(t, c, words(word("a", 1), word("b", 3)))
}

// P7.1: of a nil counter.
func TestNil(t *testing.T) {
	var c *Counter
	for _, n := range []int{math.MinInt, 0, 1, math.MaxInt} {
		if e := c.Add("a", n); e != api.ErrArg {
			t.Error(n, e)
		}
	}
	if e := c.Add("", 1); e != api.ErrArg {
		t.Error(e)
	}
	if e := c.AddAll(); e != api.ErrArg {
		t.Error(e)
	}
	if e := c.AddAll("a", ""); e != api.ErrArg {
		t.Error(e)
	}
	if n := c.Count("a"); n != 0 {
		t.Error(n)
	}
	hold(t, c, nil)
}

// P7.1: a zero counter has no words, and takes some.
func TestZero(t *testing.T) {
	var c Counter
	hold(t, &c, nil)
	if e := c.Add("", 1); e != api.ErrArg {
		t.Error(e)
	}
	if e := c.AddAll(); e != api.OK {
		t.Error(e)
	}
	hold(t, &c, nil)
	if e := c.Add("a", 2); e != api.OK {
		t.Error(e)
	}
	hold(t, &c, words(word("a", 2)))
	other := &Counter{}
	if e := other.AddAll("b", "a"); e != api.OK {
		t.Error(e)
	}
	hold(t, other, words(word("a", 1), word("b", 1)))
	hold(t, &c, words(word("a", 2)))
}

// P7.1: words rise by their bytes, which are any; a shorter one is ahead of one that it begins.
func TestFrozenOrder(t *testing.T) {
	// 26 words: the steps below come by each of them once.
	rising := []string{"\x00", "\x00\x00", "\x00\xff", "\t", " ", "10", "9", "A", "Z", "a", "a\x00", "aa", "ab", "a\xff", "b", "z", "\x7f", "\x80", "\xc3", "\xc3\xa9", "é!", "\uffff", "\U00010000", "\xff", "\xff\xfe", "\xff\xff"}
	var want []api.Word
	for i, text := range rising {
		want = append(want, word(text, i+1))
	}
	for shift := range rising {
		for _, step := range []int{1, 3, len(rising) - 1} {
			c := New()
			for i := range rising {
				w := want[(shift+i*step)%len(want)]
				if e := c.Add(w.Text, w.Count); e != api.OK {
					t.Errorf("Add of %q: %d", w.Text, e)
				}
			}
			hold(t, c, want)
		}
	}
}

// P7.1: a word may be longer than MaxWord, and there may be many.
func TestLong(t *testing.T) {
	c := New()
	long := strings.Repeat("a", api.MaxWord+1)
	if e := c.AddAll(long, long[1:], long); e != api.OK {
		t.Error(e)
	}
	hold(t, c, words(word(long[1:], 1), word(long, 2)))
	c = New()
	const many = 1 << 12
	for i := range 2 * many {
		c.Add(strconv.Itoa(i*7%many+many), i%3+1)
	}
	var want []api.Word
	for i := range many {
		want = append(want, word(strconv.Itoa(i+many), 0))
	}
	for i := range 2 * many {
		want[i*7%many].Count += i%3 + 1
	}
	hold(t, c, want)
}

// P7.2: by examples.
func TestMerge(t *testing.T) {
	for _, x := range []struct {
		l    [][]api.Word
		want []api.Word
		e    api.Errno
	}{
		{nil, nil, api.OK},
		{[][]api.Word{nil, {}, nil}, nil, api.OK},
		{[][]api.Word{{word("a", 2), word("b", 3)}}, words(word("a", 2), word("b", 3)), api.OK},
		{[][]api.Word{{word("b", 1)}, nil, {word("a", 2), word("b", 3)}}, words(word("a", 2), word("b", 4)), api.OK},
		// Lists that aren't frozen themselves: not rising, and with a word twice.
		{[][]api.Word{{word("b", 1), word("a", 2), word("b", 4)}}, words(word("a", 2), word("b", 5)), api.OK},
		{[][]api.Word{{word("a\xff", 1)}, {word("a", 1)}, {word("\x00", 7)}}, words(word("\x00", 7), word("a", 1), word("a\xff", 1)), api.OK},
		{[][]api.Word{{word("a", math.MaxInt)}, {word("b", math.MaxInt)}}, words(word("a", math.MaxInt), word("b", math.MaxInt)), api.OK},
		{[][]api.Word{{word("a", math.MaxInt-1)}, {word("a", 1)}}, words(word("a", math.MaxInt)), api.OK},
		// Some word can't be added: none at all, whatever lies around it.
		{[][]api.Word{{word("a", 1)}, {word("a", 0)}}, nil, api.ErrArg},
		{[][]api.Word{{word("a", -1), word("a", 2)}}, nil, api.ErrArg},
		{[][]api.Word{{word("a", 3)}, {word("a", math.MinInt)}}, nil, api.ErrArg},
		{[][]api.Word{{word("", 1)}}, nil, api.ErrArg},
		{[][]api.Word{{word("a", 1), {}}, {word("b", 1)}}, nil, api.ErrArg},
		{[][]api.Word{{word("a", math.MaxInt)}, {word("a", 1)}}, nil, api.ErrOverflow},
		{[][]api.Word{{word("a", 1<<62)}, {word("b", 1), word("a", 1<<62)}}, nil, api.ErrOverflow},
		// The first from the left that can't be added.
		{[][]api.Word{{word("a", math.MaxInt), word("a", 1), {}}}, nil, api.ErrOverflow},
		{[][]api.Word{{word("a", math.MaxInt)}, {{}}, {word("a", 1)}}, nil, api.ErrArg},
		{[][]api.Word{{word("a", math.MaxInt)}, {word("a", 1)}, {word("a", 0)}}, nil, api.ErrOverflow},
		{[][]api.Word{{word("z", math.MaxInt), word("z", 1)}, {word("a", 0)}}, nil, api.ErrOverflow},
	} {
		holdMerge(t, x.l, x.want, x.e)
	}
	holdMerge(t, [][]api.Word{}, nil, api.OK)
}

// P7.1, P7.2: every short list of words, wrong ones among them, one by one and cut into lists at every place.
func TestShortLists(t *testing.T) {
	of := words(word("a", 1), word("b", 2), word("ab", 1<<62), word("a", math.MaxInt-1), word("b", math.MaxInt), word("", 1), word("a", 0), word("b", -1))
	eachList(of, 4, func(list []api.Word) {
		c, m, first := New(), model(nil), api.OK
		for _, w := range list {
			e, wantE := c.Add(w.Text, w.Count), m.add(w.Text, w.Count)
			if e != wantE {
				t.Errorf("%s: Add of %q, %d: %d; want %d", tell(list), w.Text, w.Count, e, wantE)
			}
			if first == api.OK {
				first = wantE
			}
		}
		// Those that could be added are there, behind errors too.
		hold(t, c, m)
		var want []api.Word
		if first == api.OK {
			want = m
		}
		for i := range len(list) + 1 {
			for j := i; j <= len(list); j++ {
				holdMerge(t, [][]api.Word{list[:i], list[i:j], list[j:]}, want, first)
			}
		}
	})
}

// P7.2: in which order they come plays no part, if none is an error.
func TestMergeOrder(t *testing.T) {
	lists := [][]api.Word{{word("b", 1), word("a", math.MaxInt-9)}, {word("c", 5)}, {word("a", 9), word("b", 3)}, {word("b", 7), word("\xff", 1), word("b", 1)}}
	want := words(word("a", math.MaxInt), word("b", 12), word("c", 5), word("\xff", 1))
	var swap func(n int)
	swap = func(n int) {
		if n == len(lists) {
			holdMerge(t, lists, want, api.OK)
			return
		}
		for i := n; i < len(lists); i++ {
			lists[n], lists[i] = lists[i], lists[n]
			swap(n + 1)
			lists[n], lists[i] = lists[i], lists[n]
		}
	}
	swap(0)
	for _, l := range lists {
		slices.Reverse(l)
	}
	swap(0)
}

// P7.1, R4: what is frozen is new memory each time, and stays when words are added.
func TestFrozenMemory(t *testing.T) {
	c := New()
	c.AddAll("b", "a", "b")
	want := words(word("a", 1), word("b", 2))
	first, second := c.Freeze(), c.Freeze()
	first[0], first[1] = word("x", 9), word("y", 9)
	_ = append(first[:0], word("z", 9))
	if !slices.Equal(second, want) {
		t.Errorf("the second is %s now", tell(second))
	}
	hold(t, c, want)
	c.AddAll("a", "0")
	if !slices.Equal(second, want) {
		t.Errorf("the second is %s now", tell(second))
	}
	hold(t, c, words(word("0", 1), word("a", 2), word("b", 2)))
}

// R4: lists that are handed in stay as they are, aren't shared, and what lies behind their length isn't read.
func TestArgumentMemory(t *testing.T) {
	memory := words(word("b", 2), word("a", 1), word("", 0), word("c", 1))
	before := slices.Clone(memory)
	lists := [][]api.Word{memory[:2], memory[1:2], {{}}}
	got, e := Merge(lists[:2]...)
	want := words(word("a", 2), word("b", 2))
	if e != api.OK || !slices.Equal(got, want) {
		t.Errorf("%s, %d", tell(got), e)
	}
	alone, e := Merge(memory[3:])
	if e != api.OK || !slices.Equal(alone, memory[3:]) {
		t.Errorf("%s, %d", tell(alone), e)
	}
	alone[0] = word("x", 9)
	got[0] = word("y", 9)
	if !slices.Equal(memory, before) || len(lists[0]) != 2 || len(lists[1]) != 1 || len(lists[2]) != 1 {
		t.Errorf("now %s, %s", tell(memory), tell(lists...))
	}
	texts := []string{"b", "a", ""}
	c := New()
	if e := c.AddAll(texts[:2]...); e != api.OK || !slices.Equal(texts, []string{"b", "a", ""}) {
		t.Errorf("%d, now %q", e, texts)
	}
	texts[0], texts[1] = "x", "y"
	hold(t, c, words(word("a", 1), word("b", 1)))
}

// R6: the same again, behind errors too.
func TestSameAgain(t *testing.T) {
	for range 20 {
		holdMerge(t, [][]api.Word{{word("d", 1), word("c", 1), word("b", 1)}, {word("a", 1), {}}}, nil, api.ErrArg)
		holdMerge(t, [][]api.Word{{word("d", 1), word("c", 1), word("b", 1)}, {word("a", 1)}}, words(word("a", 1), word("b", 1), word("c", 1), word("d", 1)), api.OK)
	}
}
