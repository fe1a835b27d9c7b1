package naive

import (
	"fmt"
	"math"
	"slices"
	"strings"
	"testing"

	"gluepot/api"
	"gluepot/table"
)

func w(text string, count int) api.Word { return api.Word{Text: text, Count: count} }

func m(left, right string) api.Merge { return api.Merge{Left: left, Right: right} }

// tell writes a table for a message, long words shortened.
func tell(l []api.Word) string {
	var b strings.Builder
	for _, x := range l {
		fmt.Fprintf(&b, "(%.20q of %d bytes, %d)", x.Text, len(x.Text), x.Count)
	}
	return b.String()
}

// cutWord is a word whose bytes stay as they are: a merge takes away the cut between its two texts.
type cutWord struct {
	text  string
	cuts  []bool // cuts[i]: a text ends ahead of byte i.
	count int
}

func cutWords(l []api.Word) []*cutWord {
	var words []*cutWord
	for _, x := range l {
		c := &cutWord{text: x.Text, cuts: make([]bool, len(x.Text)+1), count: x.Count}
		for i := range c.cuts {
			c.cuts[i] = true
		}
		words = append(words, c)
	}
	return words
}

// around tells the texts left and right of a cut; false at both ends of the word, and where no cut is.
func (c *cutWord) around(cut int) (string, string, bool) {
	if cut < 1 || cut >= len(c.text) || !c.cuts[cut] {
		return "", "", false
	}
	from, to := cut-1, cut+1
	for !c.cuts[from] {
		from--
	}
	for !c.cuts[to] {
		to++
	}
	return c.text[from:cut], c.text[cut:to], true
}

// merge takes away each cut that lies between both texts, the left ones first: what is one text then is longer than either.
func (c *cutWord) merge(x api.Merge) {
	for cut := range c.cuts {
		if left, right, ok := c.around(cut); ok && left == x.Left && right == x.Right {
			c.cuts[cut] = false
		}
	}
}

// texts tells the word's texts.
func (c *cutWord) texts() []string {
	var l []string
	from := 0
	for cut := 1; cut <= len(c.text); cut++ {
		if c.cuts[cut] {
			l = append(l, c.text[from:cut])
			from = cut
		}
	}
	return l
}

// times counts one pair in all words.
func times(words []*cutWord, x api.Merge) int {
	n := 0
	for _, c := range words {
		for cut := range c.cuts {
			if left, right, ok := c.around(cut); ok && left == x.Left && right == x.Right {
				n += c.count
			}
		}
	}
	return n
}

// better is the chapter's words on the best pair.
func better(a api.Merge, n int, b api.Merge, k int) bool {
	if n != k {
		return n > k
	}
	if c := strings.Compare(a.Left, b.Left); c != 0 {
		return c < 0
	}
	return strings.Compare(a.Right, b.Right) < 0
}

// modelLearn learns by counting each pair that it comes by anew, without a map.
func modelLearn(l []api.Word, budget, least int) ([]api.Merge, []*cutWord) {
	words := cutWords(l)
	var merges []api.Merge
	for len(merges) < budget {
		var best api.Merge
		most := 0
		for _, c := range words {
			for cut := range c.cuts {
				left, right, ok := c.around(cut)
				if !ok {
					continue
				}
				if n := times(words, m(left, right)); most == 0 || better(m(left, right), n, best, most) {
					best, most = m(left, right), n
				}
			}
		}
		if most == 0 || most < least {
			break
		}
		merges = append(merges, best)
		for _, c := range words {
			c.merge(best)
		}
	}
	return merges, words
}

func holdLearn(t *testing.T, l []api.Word, budget, least int, want ...api.Merge) {
	t.Helper()
	if got := Learn(l, budget, least); !slices.Equal(got, want) {
		t.Fatalf("Learn of %s, %d, %d: %.200q; want %.200q", tell(l), budget, least, got, want)
	}
}

func holdBest(t *testing.T, words [][]string, counts []int, want api.Merge, wantCount int) {
	t.Helper()
	if got, n := Best(words, counts); got != want || n != wantCount {
		t.Fatalf("Best of %q, %d: %q, %d; want %q, %d", words, counts, got, n, want, wantCount)
	}
}

func holdJoin(t *testing.T, word []string, x api.Merge, want ...string) {
	t.Helper()
	if got := Join(word, x); !slices.Equal(got, want) {
		t.Fatalf("Join of %q, %q: %q; want %q", word, x, got, want)
	}
}

// holdMade asks what P16.2 says of merges: each side is one byte, or was made ahead, and none makes a text that was made.
func holdMade(t *testing.T, l []api.Word, merges []api.Merge) {
	t.Helper()
	made := map[string]bool{}
	learnt := map[api.Merge]bool{}
	for i, x := range merges {
		for _, side := range []string{x.Left, x.Right} {
			if len(side) != 1 && !made[side] {
				t.Fatalf("%s: merge %d, %q: nothing ahead made %q", tell(l), i, x, side)
			}
		}
		if learnt[x] || made[x.Left+x.Right] {
			t.Fatalf("%s: merge %d, %q, or what it makes, was there ahead", tell(l), i, x)
		}
		learnt[x], made[x.Left+x.Right] = true, true
	}
}

// holdAll learns all that is to be learnt, and asks it by the model, and by any lesser budget and greater least count.
func holdAll(t *testing.T, l []api.Word) {
	t.Helper()
	want, _ := modelLearn(l, math.MaxInt, 1)
	holdLearn(t, l, math.MaxInt, 1, want...)
	holdMade(t, l, want)
	for budget := range len(want) + 2 {
		holdLearn(t, l, budget, 1, want[:min(budget, len(want))]...)
	}
	words := cutWords(l)
	for i, x := range want {
		n := times(words, x)
		for _, least := range []int{n, n + 1} {
			some, _ := modelLearn(l, i+1, least)
			holdLearn(t, l, i+1, least, some...)
		}
		for _, c := range words {
			c.merge(x)
		}
	}
}

// tableOf is the table of the words of a text.
func tableOf(t *testing.T, text string) []api.Word {
	t.Helper()
	l, e := table.Of(strings.Fields(text)...)
	if e != api.OK {
		t.Fatal(e)
	}
	return l
}

// eachText hands do every text of 1 to size bytes of these.
func eachText(of string, size int, do func(string)) {
	var grow func(text string)
	grow = func(text string) {
		if text != "" {
			do(text)
		}
		if len(text) < size {
			for i := range len(of) {
				grow(text + of[i:i+1])
			}
		}
	}
	grow("")
}

// eachList hands do every list of at most size of these.
func eachList[T any](of []T, size int, do func([]T)) {
	var grow func(list []T)
	grow = func(list []T) {
		do(list)
		if len(list) < size {
			for _, x := range of {
				grow(append(list[:len(list):len(list)], x))
			}
		}
	}
	grow(nil)
}

// mixed tells numbers that follow no short rule, but always the same ones.
func mixed(seed uint64) func(below int) int {
	return func(below int) int {
		seed = seed*6364136223846793005 + 1442695040888963407
		return int(seed >> 33 % uint64(below))
	}
}

// mixedTable makes a table of at most so many words of at most so many letters.
func mixedTable(next func(int) int, letters string, words, size int) []api.Word {
	counts := map[string]int{}
	for range 1 + next(words) {
		var b strings.Builder
		for range 1 + next(size) {
			b.WriteByte(letters[next(len(letters))])
		}
		counts[b.String()] += 1 + next(3)
	}
	var l []api.Word
	for text, count := range counts {
		l = append(l, w(text, count))
	}
	slices.SortFunc(l, func(a, b api.Word) int { return strings.Compare(a.Text, b.Text) })
	return l
}

// P16.1: by examples.
func TestLearn(t *testing.T) {
	for _, x := range []struct {
		l             []api.Word
		budget, least int
		want          []api.Merge
	}{
		{[]api.Word{w("abab", 1)}, 9, 1, []api.Merge{m("a", "b"), m("ab", "ab")}},
		{tableOf(t, "low low lower"), 2, 1, []api.Merge{m("l", "o"), m("lo", "w")}},
		{tableOf(t, "low low lower"), 9, 1, []api.Merge{m("l", "o"), m("lo", "w"), m("e", "r"), m("low", "er")}},
		{tableOf(t, "low low lower"), 9, 2, []api.Merge{m("l", "o"), m("lo", "w")}},
		// Nothing stands behind one another.
		{nil, 9, 1, nil},
		{[]api.Word{}, 9, 1, nil},
		{[]api.Word{w("a", math.MaxInt), w("b", math.MaxInt)}, 9, 1, nil},
		// Overlapping pairs count, so that a a is there 3 times, and b c 2 times only.
		{[]api.Word{w("aaaa", 1), w("bc", 2)}, 1, 1, []api.Merge{m("a", "a")}},
		{[]api.Word{w("aaaa", 1), w("bc", 2)}, 9, 3, []api.Merge{m("a", "a")}},
		{[]api.Word{w("aaaa", 1), w("bc", 3)}, 9, 2, []api.Merge{m("a", "a"), m("b", "c")}},
		{[]api.Word{w("aaaa", 1), w("bc", 4)}, 1, 1, []api.Merge{m("b", "c")}},
		// From the left: of three the last one stays.
		{[]api.Word{w("aaa", 1)}, 9, 1, []api.Merge{m("a", "a"), m("aa", "a")}},
		{[]api.Word{w("aaaaa", 1)}, 9, 1, []api.Merge{m("a", "a"), m("aa", "a"), m("aa", "aaa")}},
		{[]api.Word{w("aaaaaaaa", 1)}, 9, 1, []api.Merge{m("a", "a"), m("aa", "aa"), m("aaaa", "aaaa")}},
		// The greatest count, then the least left text, then the least right one.
		{[]api.Word{w("ba", 1), w("cd", 2)}, 1, 1, []api.Merge{m("c", "d")}},
		{[]api.Word{w("az", 1), w("ba", 1)}, 1, 1, []api.Merge{m("a", "z")}},
		{[]api.Word{w("ab", 1), w("ac", 1)}, 1, 1, []api.Merge{m("a", "b")}},
		{[]api.Word{w("abz", 2), w("az", 2)}, 2, 1, []api.Merge{m("a", "b"), m("a", "z")}},
		// A text is ahead of one that it begins, but not of others that are longer.
		{[]api.Word{w("aac", 3), w("ad", 3)}, 9, 1, []api.Merge{m("a", "a"), m("a", "d"), m("aa", "c")}},
		{[]api.Word{w("aac", 3), w("bd", 3)}, 9, 1, []api.Merge{m("a", "a"), m("aa", "c"), m("b", "d")}},
		// Bytes, not letters: é is C3 A9.
		{[]api.Word{w("é", 1)}, 9, 1, []api.Merge{m("\xc3", "\xa9")}},
		{[]api.Word{w("\x00\xff\x80", 1)}, 9, 1, []api.Merge{m("\x00", "\xff"), m("\x00\xff", "\x80")}},
		{[]api.Word{w("\x7f\x7f", 1), w("\x80\x80", 1)}, 1, 1, []api.Merge{m("\x7f", "\x7f")}},
		// A word is as many as its count, and pairs of all words count together.
		{[]api.Word{w("ab", 2), w("bcab", 1), w("xbc", 3)}, 1, 4, []api.Merge{m("b", "c")}},
		{[]api.Word{w("ab", 3), w("bcab", 1), w("xbc", 3)}, 1, 4, []api.Merge{m("a", "b")}},
		// Words have no neighbours beside them.
		{[]api.Word{w("a", 9), w("b", 9), w("cd", 1)}, 9, 1, []api.Merge{m("c", "d")}},
	} {
		holdLearn(t, x.l, x.budget, x.least, x.want...)
		holdMade(t, x.l, x.want)
	}
}

// P16.1: the budget and the least count at their edges.
func TestEdges(t *testing.T) {
	l := []api.Word{w("abc", 3), w("bc", 2)}
	for budget, n := range map[int]int{math.MinInt: 0, -1: 0, 0: 0, 1: 1, 2: 2, 3: 2, api.MaxBudget + 1: 2, math.MaxInt: 2} {
		holdLearn(t, l, budget, 1, []api.Merge{m("b", "c"), m("a", "bc")}[:n]...)
	}
	for least, n := range map[int]int{math.MinInt: 0, -1: 0, 0: 0, 1: 2, 2: 2, 3: 2, 4: 1, 5: 1, 6: 0, math.MaxInt: 0} {
		holdLearn(t, l, 9, least, []api.Merge{m("b", "c"), m("a", "bc")}[:n]...)
	}
	holdLearn(t, []api.Word{w("ab", math.MaxInt)}, 9, math.MaxInt, m("a", "b"))
	holdLearn(t, []api.Word{w("ab", math.MaxInt-1)}, 9, math.MaxInt)
	holdLearn(t, []api.Word{w("ab", math.MaxInt-1), w("cab", 0)}, 9, 1)
	// The weight is met just.
	holdLearn(t, []api.Word{w("aaa", math.MaxInt/2), w("ab", 1)}, 9, 1, m("a", "a"), m("aa", "a"), m("a", "b"))
	holdLearn(t, []api.Word{w("aaa", math.MaxInt/2)}, 9, math.MaxInt-1, m("a", "a"))
}

// P16.1: of a table that isn't right nothing is learnt, whatever is wrong in it, and wherever.
func TestWrongTable(t *testing.T) {
	long := strings.Repeat("b", api.MaxWord+1)
	for _, l := range [][]api.Word{
		{w("", 1)},
		{w("", 1), w("ab", 1)},
		{w("ab", 0)},
		{w("ab", -1)},
		{w("ab", math.MinInt)},
		{w("aa", 1), w("ab", 0)},
		{w("aa", 1), w("ab", 0), w("b", 1)},
		{w("ab", 1), w("ab", 1)},
		{w("b", 1), w("ab", 1)},
		{w("ab", 1), w("cd", 1), w("c", 1)},
		{w(long, 1)},
		{w("ab", 1), w(long, 1)},
		{w("aaa", math.MaxInt)},
		{w("aaa", math.MaxInt/2+1)},
		{w("ab", math.MaxInt), w("bc", 1)},
	} {
		if at, e := table.Check(l); at < 0 || e == api.OK {
			t.Errorf("%s is right", tell(l))
		}
		holdLearn(t, l, 9, 1)
	}
	holdLearn(t, []api.Word{w(long[1:], 1)}, 2, 1, m("b", "b"), m("bb", "bb"))
}

// P16.1, P16.2: every word of two letters, alone.
func TestShortWords(t *testing.T) {
	eachText("ab", 9, func(text string) { holdAll(t, []api.Word{w(text, 1)}) })
}

// P16.1, P16.2: every word of three letters, twice.
func TestShortWordsOfThree(t *testing.T) {
	eachText("\xffa\x00", 6, func(text string) { holdAll(t, []api.Word{w(text, 2)}) })
}

// P16.1, P16.2: every short table of short words.
func TestShortTables(t *testing.T) {
	var texts []string
	eachText("ab", 3, func(text string) { texts = append(texts, text) })
	slices.Sort(texts)
	// From one place on the words rise, so that each set of words comes once.
	for i := range texts {
		for j := i + 1; j < len(texts); j++ {
			for k := j + 1; k < len(texts); k++ {
				eachList([]int{1, 2, 3}, 3, func(counts []int) {
					if len(counts) == 3 {
						holdAll(t, []api.Word{w(texts[i], counts[0]), w(texts[j], counts[1]), w(texts[k], counts[2])})
					}
				})
			}
		}
	}
}

// P16.1, P16.2: longer tables; few letters, so that pairs overlap and are there as often as others.
func TestMixedTables(t *testing.T) {
	next := mixed(16)
	for _, x := range []struct {
		letters     string
		words, size int
	}{{"a", 4, 30}, {"ab", 4, 20}, {"abc", 8, 12}, {"abcdefgh", 20, 8}, {"\x00\x7f\x80\xff", 8, 12}} {
		for range 60 {
			holdAll(t, mixedTable(next, x.letters, x.words, x.size))
		}
	}
}

// P16.2: many merges, of longer words than the model counts anew in time; behind all of them each word is one text.
func TestManyMerges(t *testing.T) {
	next := mixed(7)
	for _, letters := range []string{"ab", "abc", "\x00ab\xff", "abcdefghijklmnop"} {
		for range 20 {
			l := mixedTable(next, letters, 6, 120)
			merges := Learn(l, math.MaxInt, 1)
			holdMade(t, l, merges)
			if n := table.Positions(l); len(merges) > n {
				t.Fatalf("%s: %d merges of %d positions", tell(l), len(merges), n)
			}
			for i, word := range cutWords(l) {
				for _, x := range merges {
					word.merge(x)
				}
				if texts := word.texts(); len(texts) != 1 {
					t.Fatalf("%s: word %d is %q", tell(l), i, texts)
				}
			}
		}
	}
}

// P16.1: the longest word that there is.
func TestLongestWord(t *testing.T) {
	text := strings.Repeat("a", api.MaxWord)
	var want []api.Merge
	for side := 1; side < api.MaxWord; side *= 2 {
		want = append(want, m(text[:side], text[:side]))
	}
	holdLearn(t, []api.Word{w(text, 3)}, math.MaxInt, 1, want...)
	holdMade(t, nil, want)
}

// P16.1: the best merge, by examples.
func TestBest(t *testing.T) {
	for _, x := range []struct {
		words  [][]string
		counts []int
		want   api.Merge
		count  int
	}{
		{[][]string{{"a", "b", "a"}, {"b", "a"}}, []int{1, 1}, m("b", "a"), 2},
		{[][]string{{"a", "a", "a", "a"}}, []int{1}, m("a", "a"), 3},
		{[][]string{{"a", "a", "a", "a"}, {"b", "b", "b"}}, []int{2, 3}, m("a", "a"), 6},
		{[][]string{{"a", "a", "a", "a"}, {"b", "b", "b"}}, []int{2, 4}, m("b", "b"), 8},
		{[][]string{{"lo", "w"}, {"lo", "w", "e", "r"}}, []int{2, 1}, m("lo", "w"), 3},
		// As often: the left text first, then the right one.
		{[][]string{{"c", "a"}, {"b", "d"}, {"b", "c"}}, []int{1, 1, 1}, m("b", "c"), 1},
		{[][]string{{"b", "a"}, {"a", "b"}, {"a", "aa"}, {"aa", "a"}}, []int{5, 5, 5, 5}, m("a", "aa"), 5},
		{[][]string{{"ab", "c"}, {"a", "bd"}}, []int{1, 1}, m("a", "bd"), 1},
		{[][]string{{"ab", "c"}, {"a", "bc"}}, []int{1, 1}, m("a", "bc"), 1},
		{[][]string{{"\xff", "a"}, {"\x80", "a"}, {"\u00e9", "a"}}, []int{1, 1, 1}, m("\x80", "a"), 1},
		// Both texts alike as one, but cut elsewhere: these are two pairs.
		{[][]string{{"ab", "c"}, {"a", "bc"}, {"x", "y"}}, []int{2, 2, 3}, m("x", "y"), 3},
		// There is none.
		{nil, nil, m("", ""), 0},
		{[][]string{}, []int{}, m("", ""), 0},
		{[][]string{{}, {"a"}, nil, {"b"}}, []int{1, 2, 3, 4}, m("", ""), 0},
		// Counts below 1, and words without a count, play no part; counts without a word neither.
		{[][]string{{"a", "b"}}, nil, m("", ""), 0},
		{[][]string{{"a", "b"}}, []int{0}, m("", ""), 0},
		{[][]string{{"a", "b"}}, []int{-1}, m("", ""), 0},
		{[][]string{{"a", "b"}}, []int{math.MinInt}, m("", ""), 0},
		{nil, []int{1, 2}, m("", ""), 0},
		{[][]string{{"a", "b"}}, []int{2, 9}, m("a", "b"), 2},
		{[][]string{{"a", "b"}, {"c", "d"}, {"c", "d"}}, []int{1}, m("a", "b"), 1},
		{[][]string{{"a", "b"}, {"a", "b"}, {"c", "d"}}, []int{3, -2, 2}, m("a", "b"), 3},
		{[][]string{{"a", "b"}, {"c", "d"}, {"a", "b"}}, []int{0, 1, math.MinInt}, m("c", "d"), 1},
		{[][]string{{"a", "b"}}, []int{math.MaxInt}, m("a", "b"), math.MaxInt},
		{[][]string{{"a", "b"}, {"a", "b"}, {"c", "d"}}, []int{math.MaxInt - 1, 1, math.MaxInt}, m("a", "b"), math.MaxInt},
		// Any texts, the empty one among them: it is the least.
		{[][]string{{"", ""}}, []int{2}, m("", ""), 2},
		{[][]string{{"a", ""}, {"", "b"}}, []int{1, 1}, m("", "b"), 1},
		{[][]string{{"", "b"}, {"", ""}}, []int{1, 1}, m("", ""), 1},
		{[][]string{{"", ""}, {"a", "b"}}, []int{1, 2}, m("a", "b"), 2},
	} {
		holdBest(t, x.words, x.counts, x.want, x.count)
	}
}

// modelBest counts each pair by itself, at all places of all words.
func modelBest(words [][]string, counts []int) (api.Merge, int) {
	var best api.Merge
	most := 0
	for _, word := range words {
		for at := 1; at < len(word); at++ {
			x, n := m(word[at-1], word[at]), 0
			for i, other := range words {
				for to := 1; to < len(other); to++ {
					if i < len(counts) && counts[i] > 0 && m(other[to-1], other[to]) == x {
						n += counts[i]
					}
				}
			}
			if n > 0 && (most == 0 || better(x, n, best, most)) {
				best, most = x, n
			}
		}
	}
	return best, most
}

// P16.1: the best merge of every short list of short words of any texts, with all counts.
func TestBestShortLists(t *testing.T) {
	var words [][]string
	eachList([]string{"b", "", "ab"}, 3, func(word []string) { words = append(words, word) })
	eachList(words, 2, func(some [][]string) {
		eachList([]int{2, 1, 0, -1}, 3, func(counts []int) {
			want, n := modelBest(some, counts)
			holdBest(t, some, counts, want, n)
		})
	})
}

// P16.1: the word behind a merge, by examples.
func TestJoin(t *testing.T) {
	for _, x := range []struct {
		word []string
		m    api.Merge
		want []string
	}{
		{[]string{"a", "a", "a", "b", "a"}, m("a", "a"), []string{"aa", "a", "b", "a"}},
		{[]string{"a", "a", "a", "a"}, m("a", "a"), []string{"aa", "aa"}},
		{[]string{"a", "b", "a", "b"}, m("a", "b"), []string{"ab", "ab"}},
		{[]string{"a", "b", "a", "b"}, m("b", "a"), []string{"a", "ba", "b"}},
		{[]string{"x", "a", "b"}, m("a", "b"), []string{"x", "ab"}},
		{[]string{"lo", "w", "e", "r"}, m("lo", "w"), []string{"low", "e", "r"}},
		// It isn't there.
		{[]string{"a", "b"}, m("b", "a"), []string{"a", "b"}},
		{[]string{"ab", "c"}, m("a", "bc"), []string{"ab", "c"}},
		{[]string{"abc"}, m("ab", "c"), []string{"abc"}},
		{[]string{"a", "c", "b"}, m("a", "b"), []string{"a", "c", "b"}},
		{[]string{"a"}, m("a", "a"), []string{"a"}},
		{[]string{"a", "b", "a"}, m("a", "a"), []string{"a", "b", "a"}},
		{nil, m("a", "b"), nil},
		{[]string{}, m("", ""), nil},
		// What is one text isn't merged again.
		{[]string{"a", "", ""}, m("a", ""), []string{"a", ""}},
		{[]string{"", "", "", "a"}, m("", ""), []string{"", "", "a"}},
		{[]string{"", "a", "a"}, m("", "a"), []string{"a", "a"}},
		{[]string{"\xff", "\x00", "é"}, m("\x00", "é"), []string{"\xff", "\x00é"}},
	} {
		holdJoin(t, x.word, x.m, x.want...)
	}
}

// modelJoin goes by what the word begins with.
func modelJoin(word []string, x api.Merge) []string {
	switch {
	case len(word) == 0:
		return nil
	case len(word) > 1 && word[0] == x.Left && word[1] == x.Right:
		return append([]string{x.Left + x.Right}, modelJoin(word[2:], x)...)
	}
	return append(word[:1:1], modelJoin(word[1:], x)...)
}

// P16.1: every short word of any texts behind every merge of them.
func TestJoinShortWords(t *testing.T) {
	of := []string{"a", "b", "", "ab"}
	eachList(of, 6, func(word []string) {
		for _, left := range of {
			for _, right := range of {
				holdJoin(t, word, m(left, right), modelJoin(word, m(left, right))...)
			}
		}
	})
}

// P1: what isn't promised ends, too, and doesn't panic.
func TestAnyArgument(t *testing.T) {
	Best([][]string{{"a", "b"}, {"a", "b"}}, []int{math.MaxInt, math.MaxInt})
	Best([][]string{{"a", "b"}, {"a", "b"}, {"a", "b"}}, []int{math.MaxInt, math.MaxInt, 2})
	holdLearn(t, nil, math.MinInt, math.MinInt)
	holdLearn(t, nil, math.MaxInt, math.MaxInt)
	holdLearn(t, []api.Word{{}}, math.MaxInt, 1)
}

// R4: what is handed in stays as it is, isn't shared, and what lies behind its length isn't read.
func TestMemory(t *testing.T) {
	l := []api.Word{w("ab", 3), w("b", 2), w("", -1), w("bc", 9)}
	before := slices.Clone(l)
	holdLearn(t, l[:2], 9, 1, m("a", "b"))
	if !slices.Equal(l, before) {
		t.Errorf("now %s", tell(l))
	}
	first, second := Learn(l[:2], 9, 1), Learn(l[:2], 9, 1)
	first[0] = m("x", "y")
	if !slices.Equal(second, []api.Merge{m("a", "b")}) {
		t.Errorf("the second is %q now", second)
	}
	words := [][]string{{"a", "b", "c", "c", "c"}, {"c", "c"}, {"c", "c", "c"}}
	counts := []int{1, 9, 9}
	words[0] = words[0][:3]
	holdBest(t, words[:1], counts[:1], m("a", "b"), 1)
	holdBest(t, words[:1], counts, m("a", "b"), 1)
	holdBest(t, words, counts[:1], m("a", "b"), 1)
	if !slices.Equal(words[0][:5], []string{"a", "b", "c", "c", "c"}) || len(words) != 3 || !slices.Equal(counts, []int{1, 9, 9}) {
		t.Errorf("now %q, %d", words, counts)
	}
}

// R4: a word behind a merge is new memory, also where the merge isn't there.
func TestJoinMemory(t *testing.T) {
	for _, x := range []api.Merge{m("a", "b"), m("b", "b"), m("b", "c"), m("c", "d")} {
		word := []string{"a", "b", "c", "d"}
		joined := Join(word[:3], x)
		if !slices.Equal(word, []string{"a", "b", "c", "d"}) {
			t.Errorf("%q: the word is %q now", x, word)
		}
		want := slices.Clone(joined)
		for i := range word {
			word[i] = "x"
		}
		if !slices.Equal(joined, want) {
			t.Errorf("%q: what was answered is %q now", x, joined)
		}
		word = []string{"a", "b", "c", "d"}
		joined = append(Join(word[:3], x), "y")
		for i := range joined {
			joined[i] = "z"
		}
		if !slices.Equal(word, []string{"a", "b", "c", "d"}) {
			t.Errorf("%q: the word is %q behind writing over the answer", x, word)
		}
	}
}

// R6: the same again; all pairs are there as often, so that an order of a map would show.
func TestSameAgain(t *testing.T) {
	l := tableOf(t, "abcdefgh hgfedcba acegbdfh")
	want, _ := modelLearn(l, math.MaxInt, 1)
	words := [][]string{{"d", "c"}, {"c", "d"}, {"b", "c"}, {"b", "a"}, {"d", "a"}}
	for range 50 {
		holdLearn(t, l, math.MaxInt, 1, want...)
		holdBest(t, words, []int{1, 1, 1, 1, 1}, m("b", "a"), 1)
	}
}
