package train

import (
	"fmt"
	"math"
	"slices"
	"strings"
	"testing"

	"gluepot/api"
	"gluepot/naive"
	"gluepot/table"
)

func w(text string, count int) api.Word { return api.Word{Text: text, Count: count} }

func m(left, right string) api.Merge { return api.Merge{Left: left, Right: right} }

func params(budget, least, limit int) api.Params {
	return api.Params{Budget: budget, Min: least, Limit: limit}
}

// all are parameters by which all is learnt that is to be learnt.
func all() api.Params { return params(api.MaxBudget, 1, api.MaxWord) }

// tell writes a table for a message, long words shortened.
func tell(l []api.Word) string {
	var b strings.Builder
	for _, x := range l[:min(len(l), 20)] {
		fmt.Fprintf(&b, "(%.20q of %d bytes, %d)", x.Text, len(x.Text), x.Count)
	}
	return b.String()
}

// begun makes a learner of what is right.
func begun(t *testing.T, l []api.Word, p api.Params) *Learner {
	t.Helper()
	x, e := New(l, p)
	if x == nil || e != api.OK {
		t.Fatalf("New of %s, %v: %v, %d", tell(l), p, x != nil, e)
	}
	return x
}

func holdLearn(t *testing.T, l []api.Word, p api.Params, want ...api.Merge) {
	t.Helper()
	got, s, e := Learn(l, p)
	if e != api.OK || !slices.Equal(got, want) {
		t.Fatalf("Learn of %s, %v: %.200q, %d; want %.200q", tell(l), p, got, e, want)
	}
	holdStats(t, l, s, len(want))
}

// holdWrong asks that both calls tell this error, and nothing else.
func holdWrong(t *testing.T, l []api.Word, p api.Params, want api.Errno) {
	t.Helper()
	if x, e := New(l, p); x != nil || e != want {
		t.Errorf("New of %s, %v: %v, %d; want nil, %d", tell(l), p, x, e, want)
	}
	if merges, s, e := Learn(l, p); len(merges) != 0 || s != (api.Stats{}) || e != want {
		t.Errorf("Learn of %s, %v: %.200q, %v, %d; want none and %d", tell(l), p, merges, s, e, want)
	}
}

// bytesIn counts the bytes of all words, which is N.
func bytesIn(l []api.Word) int {
	n := 0
	for _, x := range l {
		n += len(x.Text)
	}
	return n
}

// holdStats asks all that P17.2 says of the numbers.
func holdStats(t *testing.T, l []api.Word, s api.Stats, rounds int) {
	t.Helper()
	n := bytesIn(l)
	if s.Positions != n || s.Rounds != rounds {
		t.Fatalf("%s: %+v; want %d positions, %d rounds", tell(l), s, n, rounds)
	}
	if s.Pushes > 5*n || s.Peak > 5*n+1 || s.Pops > s.Pushes || s.Rounds > n {
		t.Fatalf("%s: %+v are out of bounds", tell(l), s)
	}
	if s.Peak > s.Pushes || min(s.Pushes, s.Pops, s.Peak, s.Rebuilds) < 0 || s.Pops < s.Rounds {
		t.Fatalf("%s: %+v can't be what a queue counted", tell(l), s)
	}
}

// holdWords asks what the words are, and tells how many texts they have.
func holdWords(t *testing.T, x *Learner, want [][]string) int {
	t.Helper()
	got := x.Words()
	if !slices.EqualFunc(got, want, func(a, b []string) bool { return slices.Equal(a, b) }) {
		t.Fatalf("Words: %.300q; want %.300q", got, want)
	}
	n := 0
	for _, word := range got {
		n += len(word)
	}
	return n
}

// bytesOf is a table's words as their bytes.
func bytesOf(l []api.Word) [][]string {
	var words [][]string
	for _, x := range l {
		var word []string
		for i := range len(x.Text) {
			word = append(word, x.Text[i:i+1])
		}
		words = append(words, word)
	}
	return words
}

// holdSteps goes step by step by what naive learns; behind each step it asks all that may be asked, and behind the end again and again.
func holdSteps(t *testing.T, l []api.Word, p api.Params) {
	t.Helper()
	want := naive.Learn(l, p.Budget, p.Min)
	x, words := begun(t, l, p), bytesOf(l)
	left := holdWords(t, x, words)
	holdStats(t, l, x.Stats(), 0)
	for i, merge := range want {
		if got, ok := x.Step(); !ok || got != merge {
			t.Fatalf("%s, %v: step %d is %.200q, %v; want %.200q", tell(l), p, i, got, ok, merge)
		}
		if got := x.Merges(); !slices.Equal(got, want[:i+1]) {
			t.Fatalf("%s, %v: behind step %d: %.200q; want %.200q", tell(l), p, i, got, want[:i+1])
		}
		for at, word := range words {
			words[at] = naive.Join(word, merge)
		}
		now := holdWords(t, x, words)
		if now >= left {
			t.Fatalf("%s, %v: step %d leaves %d of %d positions", tell(l), p, i, now, left)
		}
		left = now
		holdStats(t, l, x.Stats(), i+1)
	}
	holdEnd(t, x, want, words)
}

// holdEnd asks that no step changes anything any more.
func holdEnd(t *testing.T, x *Learner, merges []api.Merge, words [][]string) {
	t.Helper()
	var stats api.Stats
	for i := range 3 {
		if got, ok := x.Step(); ok || got != m("", "") {
			t.Fatalf("one more step: %.200q, %v behind %.200q", got, ok, merges)
		}
		if got := x.Merges(); !slices.Equal(got, merges) {
			t.Fatalf("Merges at the end: %.200q; want %.200q", got, merges)
		}
		holdWords(t, x, words)
		if s := x.Stats(); i > 0 && s != stats {
			t.Fatalf("Stats: %+v behind one more step at the end; were %+v", s, stats)
		}
		stats = x.Stats()
	}
}

// holdAll goes by every budget, and by every least count that is a pair's, or greater by 1.
func holdAll(t *testing.T, l []api.Word) {
	t.Helper()
	want := naive.Learn(l, math.MaxInt, 1)
	holdLearn(t, l, all(), want...)
	holdSteps(t, l, all())
	for budget := range len(want) + 2 {
		holdLearn(t, l, params(budget, 1, api.MaxWord), want[:min(budget, len(want))]...)
	}
	words, counts := bytesOf(l), make([]int, len(l))
	for i, x := range l {
		counts[i] = x.Count
	}
	for _, merge := range want {
		_, n := naive.Best(words, counts)
		for _, least := range []int{n, n + 1} {
			p := params(api.MaxBudget, least, api.MaxWord)
			holdLearn(t, l, p, naive.Learn(l, p.Budget, p.Min)...)
		}
		for at, word := range words {
			words[at] = naive.Join(word, merge)
		}
	}
}

// tableOf is the table of the words of a text.
func tableOf(t *testing.T, text string) []api.Word {
	t.Helper()
	l, e := table.Of(strings.Fields(text)...)
	if e != api.OK {
		t.Fatal(e)
	}
	return l
}

// eachText hands do every text of 1 to size bytes of these.
func eachText(of string, size int, do func(string)) {
	var grow func(text string)
	grow = func(text string) {
		if text != "" {
			do(text)
		}
		if len(text) < size {
			for i := range len(of) {
				grow(text + of[i:i+1])
			}
		}
	}
	grow("")
}

// mixed tells numbers that follow no short rule, but always the same ones.
func mixed(seed uint64) func(below int) int {
	return func(below int) int {
		seed = seed*6364136223846793005 + 1442695040888963407
		return int(seed >> 33 % uint64(below))
	}
}

// mixedTable makes a table of at most so many words of at most so many letters.
func mixedTable(next func(int) int, letters string, words, size int) []api.Word {
	counts := map[string]int{}
	for range 1 + next(words) {
		var b strings.Builder
		for range 1 + next(size) {
			b.WriteByte(letters[next(len(letters))])
		}
		counts[b.String()] += 1 + next(3)
	}
	var l []api.Word
	for text, count := range counts {
		l = append(l, w(text, count))
	}
	slices.SortFunc(l, func(a, b api.Word) int { return strings.Compare(a.Text, b.Text) })
	return l
}

// P17.1: by examples; what is to be learnt is written out, so that nothing hangs on naive.
func TestLearn(t *testing.T) {
	for _, x := range []struct {
		l             []api.Word
		budget, least int
		want          []api.Merge
	}{
		{[]api.Word{w("ab", 2), w("abc", 1)}, 9, 1, []api.Merge{m("a", "b"), m("ab", "c")}},
		{[]api.Word{w("ab", 2), w("abc", 1)}, 1, 1, []api.Merge{m("a", "b")}},
		{[]api.Word{w("ab", 2), w("abc", 1)}, 9, 2, []api.Merge{m("a", "b")}},
		{[]api.Word{w("abab", 1)}, 9, 1, []api.Merge{m("a", "b"), m("ab", "ab")}},
		{tableOf(t, "low low lower"), 2, 1, []api.Merge{m("l", "o"), m("lo", "w")}},
		{tableOf(t, "low low lower"), 9, 1, []api.Merge{m("l", "o"), m("lo", "w"), m("e", "r"), m("low", "er")}},
		// Nothing stands behind one another.
		{nil, 9, 1, nil},
		{[]api.Word{}, 9, 1, nil},
		{[]api.Word{w("a", math.MaxInt), w("b", math.MaxInt)}, 9, 1, nil},
		// Overlapping pairs count, so that a a is there 3 times, and b c 2 times only.
		{[]api.Word{w("aaaa", 1), w("bc", 2)}, 1, 1, []api.Merge{m("a", "a")}},
		{[]api.Word{w("aaaa", 1), w("bc", 2)}, 9, 3, []api.Merge{m("a", "a")}},
		{[]api.Word{w("aaaa", 1), w("bc", 4)}, 1, 1, []api.Merge{m("b", "c")}},
		// From the left: of three the last one stays.
		{[]api.Word{w("aaaaa", 1)}, 9, 1, []api.Merge{m("a", "a"), m("aa", "a"), m("aa", "aaa")}},
		{[]api.Word{w("aaaaaaaa", 1)}, 9, 1, []api.Merge{m("a", "a"), m("aa", "aa"), m("aaaa", "aaaa")}},
		// The greatest count, then the least left text, then the least right one.
		{[]api.Word{w("ba", 1), w("cd", 2)}, 1, 1, []api.Merge{m("c", "d")}},
		{[]api.Word{w("az", 1), w("ba", 1)}, 1, 1, []api.Merge{m("a", "z")}},
		{[]api.Word{w("ab", 1), w("ac", 1)}, 1, 1, []api.Merge{m("a", "b")}},
		// By the texts, not by the numbers: what was made last is ahead of what has one byte.
		{[]api.Word{w("aac", 3), w("bd", 3)}, 9, 1, []api.Merge{m("a", "a"), m("aa", "c"), m("b", "d")}},
		{[]api.Word{w("aac", 3), w("ad", 3)}, 9, 1, []api.Merge{m("a", "a"), m("a", "d"), m("aa", "c")}},
		// A merge leaves others less often: b c is there 5 times, then only 2.
		{[]api.Word{w("abc", 6), w("bc", 2), w("xy", 3)}, 9, 1, []api.Merge{m("b", "c"), m("a", "bc"), m("x", "y")}},
		{[]api.Word{w("ab", 9), w("abc", 3), w("bc", 2), w("xy", 4)}, 9, 1, []api.Merge{m("a", "b"), m("x", "y"), m("ab", "c"), m("b", "c")}},
		{[]api.Word{w("ab", 9), w("abc", 3), w("bc", 2), w("xy", 4)}, 9, 3, []api.Merge{m("a", "b"), m("x", "y"), m("ab", "c")}},
		// Bytes, not letters: é is C3 A9.
		{[]api.Word{w("é", 1)}, 9, 1, []api.Merge{m("\xc3", "\xa9")}},
		{[]api.Word{w("\x00\xff\x80", 1)}, 9, 1, []api.Merge{m("\x00", "\xff"), m("\x00\xff", "\x80")}},
		// Words have no neighbours beside them.
		{[]api.Word{w("a", 9), w("b", 9), w("cd", 1)}, 9, 1, []api.Merge{m("c", "d")}},
	} {
		p := params(x.budget, x.least, 9)
		holdLearn(t, x.l, p, x.want...)
		holdSteps(t, x.l, p)
	}
}

// P17.1: what Step, Merges and Words tell, one behind the other.
func TestStep(t *testing.T) {
	x := begun(t, []api.Word{w("ab", 2), w("abc", 1)}, params(9, 1, 9))
	holdWords(t, x, [][]string{{"a", "b"}, {"a", "b", "c"}})
	if got := x.Merges(); len(got) != 0 {
		t.Errorf("Merges of a new one: %q", got)
	}
	if got, ok := x.Step(); !ok || got != m("a", "b") {
		t.Errorf("first: %q, %v", got, ok)
	}
	holdWords(t, x, [][]string{{"ab"}, {"ab", "c"}})
	if got, ok := x.Step(); !ok || got != m("ab", "c") {
		t.Errorf("second: %q, %v", got, ok)
	}
	holdEnd(t, x, []api.Merge{m("a", "b"), m("ab", "c")}, [][]string{{"ab"}, {"abc"}})
}

// P17.1: the budget and the least count at their edges.
func TestEdges(t *testing.T) {
	l := []api.Word{w("abc", 3), w("bc", 2)}
	merges := []api.Merge{m("b", "c"), m("a", "bc")}
	for budget, n := range map[int]int{0: 0, 1: 1, 2: 2, 3: 2, api.MaxBudget: 2} {
		holdLearn(t, l, params(budget, 1, 3), merges[:n]...)
		holdSteps(t, l, params(budget, 1, 3))
	}
	for least, n := range map[int]int{1: 2, 2: 2, 3: 2, 4: 1, 5: 1, 6: 0, math.MaxInt: 0} {
		holdLearn(t, l, params(9, least, 3), merges[:n]...)
		holdSteps(t, l, params(9, least, 3))
	}
	holdLearn(t, []api.Word{w("ab", math.MaxInt)}, params(9, math.MaxInt, 2), m("a", "b"))
	holdLearn(t, []api.Word{w("ab", math.MaxInt-1)}, params(9, math.MaxInt, 2))
	// The weight is met just.
	holdLearn(t, []api.Word{w("aaa", math.MaxInt/2), w("ab", 1)}, all(), m("a", "a"), m("aa", "a"), m("a", "b"))
	holdLearn(t, []api.Word{w("aaa", math.MaxInt/2)}, params(9, math.MaxInt-1, 3), m("a", "a"))
	// So is the limit.
	holdLearn(t, []api.Word{w("a", 1)}, params(9, 1, 1))
	holdLearn(t, []api.Word{w("abc", 1), w("b", 1)}, params(1, 1, 3), m("a", "b"))
}

// P17.1: wrong parameters, whatever the words are.
func TestWrongParams(t *testing.T) {
	long := strings.Repeat("b", api.MaxWord+1)
	for _, p := range []api.Params{
		{},
		params(-1, 1, 9),
		params(math.MinInt, 1, 9),
		params(api.MaxBudget+1, 1, 9),
		params(math.MaxInt, 1, 9),
		params(9, 0, 9),
		params(9, -1, 9),
		params(9, math.MinInt, 9),
		params(9, 1, 0),
		params(9, 1, -1),
		params(9, 1, math.MinInt),
		params(9, 1, api.MaxWord+1),
		params(9, 1, math.MaxInt),
	} {
		for _, l := range [][]api.Word{
			nil,
			{w("ab", 1)},
			{w("", 1)},
			{w("abcdefghij", 1)},
			{w(long, 1)},
			{w("b", 1), w("a", 1)},
			{w("aaa", math.MaxInt)},
		} {
			holdWrong(t, l, p, api.ErrBadParam)
		}
	}
}

// P17.1: a word that is longer than the limit, ahead of whatever else is wrong, wherever it is.
func TestLongerThanLimit(t *testing.T) {
	long := strings.Repeat("b", api.MaxWord+1)
	for _, x := range []struct {
		l     []api.Word
		limit int
	}{
		{[]api.Word{w("ab", 1)}, 1},
		{[]api.Word{w("abc", 1)}, 2},
		{[]api.Word{w("a", 1), w("abc", 1), w("b", 1)}, 2},
		{[]api.Word{w("a", 1), w("ab", 1), w("abc", 1)}, 2},
		{[]api.Word{w("é", 1)}, 1},
		{[]api.Word{w("abc", 0)}, 2},
		{[]api.Word{w("", 1), w("abc", 1)}, 2},
		{[]api.Word{w("a", -1), w("abc", 1)}, 2},
		{[]api.Word{w("b", 1), w("a", 1), w("abc", 1)}, 2},
		{[]api.Word{w("abc", 1), w("a", 1)}, 2},
		{[]api.Word{w("aaa", math.MaxInt)}, 2},
		{[]api.Word{w("aaa", math.MaxInt), w("abcd", 1)}, 3},
		{[]api.Word{w(long, 1)}, api.MaxWord},
		{[]api.Word{w("", 1), w(long, 1)}, api.MaxWord},
		{[]api.Word{w(long[1:], 1)}, api.MaxWord - 1},
	} {
		holdWrong(t, x.l, params(9, 1, x.limit), api.ErrWordTooLong)
		holdWrong(t, x.l, params(0, math.MaxInt, x.limit), api.ErrWordTooLong)
	}
}

// P17.1: a table that isn't right, with the error that Check tells.
func TestWrongTable(t *testing.T) {
	for _, x := range []struct {
		l    []api.Word
		want api.Errno
	}{
		{[]api.Word{w("", 1)}, api.ErrArg},
		{[]api.Word{w("ab", 0)}, api.ErrArg},
		{[]api.Word{w("ab", -1)}, api.ErrArg},
		{[]api.Word{w("ab", math.MinInt)}, api.ErrArg},
		{[]api.Word{w("aa", 1), w("", 1)}, api.ErrArg},
		{[]api.Word{w("aa", 1), w("ab", 0), w("aa", 1)}, api.ErrArg},
		{[]api.Word{w("ab", 1), w("ab", 1)}, api.ErrForm},
		{[]api.Word{w("b", 1), w("ab", 1)}, api.ErrForm},
		{[]api.Word{w("ab", 1), w("cd", 1), w("c", 1), w("", 1)}, api.ErrForm},
		{[]api.Word{w("aaa", math.MaxInt)}, api.ErrOverflow},
		{[]api.Word{w("aaa", math.MaxInt/2+1)}, api.ErrOverflow},
		{[]api.Word{w("ab", math.MaxInt), w("bc", 1)}, api.ErrOverflow},
		{[]api.Word{w("aaa", math.MaxInt), w("ab", 0)}, api.ErrArg},
	} {
		if _, e := table.Check(x.l); e != x.want {
			t.Errorf("Check of %s: %d; want %d", tell(x.l), e, x.want)
		}
		holdWrong(t, x.l, params(9, 1, 3), x.want)
		holdWrong(t, x.l, params(0, math.MaxInt, api.MaxWord), x.want)
	}
}

// P17.1, P17.2: every word of two letters, alone.
func TestShortWords(t *testing.T) {
	eachText("ab", 9, func(text string) { holdAll(t, []api.Word{w(text, 1)}) })
}

// P17.1, P17.2: every word of three letters, twice.
func TestShortWordsOfThree(t *testing.T) {
	eachText("\xffa\x00", 6, func(text string) { holdAll(t, []api.Word{w(text, 2)}) })
}

// P17.1, P17.2: every short table of short words.
func TestShortTables(t *testing.T) {
	var texts []string
	eachText("ab", 3, func(text string) { texts = append(texts, text) })
	slices.Sort(texts)
	// From one place on the words rise, so that each set of words comes once.
	for i := range texts {
		for j := i + 1; j < len(texts); j++ {
			for k := j + 1; k < len(texts); k++ {
				for n := range 27 {
					holdAll(t, []api.Word{w(texts[i], 1+n%3), w(texts[j], 1+n/3%3), w(texts[k], 1+n/9)})
				}
			}
		}
	}
}

// P17.1, P17.2: longer tables; few letters, so that pairs overlap and are there as often as others.
func TestMixedTables(t *testing.T) {
	next := mixed(17)
	for _, x := range []struct {
		letters     string
		words, size int
	}{{"a", 4, 30}, {"ab", 4, 20}, {"abc", 8, 12}, {"abcdefgh", 20, 8}, {"\x00\x7f\x80\xff", 8, 12}, {"abcdefghijklmnopqrstuvwxyz", 20, 6}} {
		for range 30 {
			holdAll(t, mixedTable(next, x.letters, x.words, x.size))
		}
	}
}

// P17.1, P17.2: many rounds, so that the queue is built anew again and again.
func TestManyRounds(t *testing.T) {
	next := mixed(5)
	rebuilds := 0
	for _, letters := range []string{"ab", "abc", "\x00ab\xff", "abcdefghijklmnop"} {
		for range 5 {
			l := mixedTable(next, letters, 60, 40)
			holdSteps(t, l, all())
			for least := 1; least < 40; least += 3 {
				p := params(api.MaxBudget, least, api.MaxWord)
				holdLearn(t, l, p, naive.Learn(l, p.Budget, p.Min)...)
			}
			_, s, _ := Learn(l, all())
			rebuilds += s.Rebuilds
		}
	}
	if rebuilds == 0 {
		t.Error("no queue was built anew")
	}
}

// P17.1: great counts, that only differ a little.
func TestGreatCounts(t *testing.T) {
	next := mixed(3)
	for range 100 {
		l := mixedTable(next, "abcd", 12, 6)
		for i := range l {
			l[i].Count = math.MaxInt/bytesIn(l) - next(3)
		}
		holdAll(t, l)
	}
}

// P17.2: where hardly a pair is there twice, each merge has neighbours of its own, and the most entries are made.
func TestManyNeighbours(t *testing.T) {
	var l []api.Word
	for left := range 16 {
		for right := range 16 {
			l = append(l, w(string([]byte{byte('a' + left), 'X', 'Y', byte('a' + right)}), 1))
		}
	}
	holdSteps(t, l, all())
	var b strings.Builder
	for i := range api.Bytes {
		b.WriteString(string([]byte{byte(i), 'x', 'y'}))
	}
	holdSteps(t, []api.Word{w(b.String(), 1)}, all())
	next := mixed(2)
	text := make([]byte, 500)
	for i := range text {
		text[i] = byte(next(api.Bytes))
	}
	holdSteps(t, []api.Word{w(string(text), 1)}, all())
}

// P17.1, P17.2: the longest word that there is, of one letter.
func TestLongestWord(t *testing.T) {
	text := strings.Repeat("a", api.MaxWord)
	var want []api.Merge
	for side := 1; side < api.MaxWord; side *= 2 {
		want = append(want, m(text[:side], text[:side]))
	}
	holdLearn(t, []api.Word{w(text, 3)}, all(), want...)
	holdLearn(t, []api.Word{w("a", 1), w(text[1:], 3)}, params(1, 1, api.MaxWord), want[0])
}

// P17.1, P17.2: a long word in which many pairs are there, of which a few hundred are learnt.
func TestLongWord(t *testing.T) {
	next := mixed(9)
	text := make([]byte, 20000)
	for i := range text {
		text[i] = byte(next(12))
	}
	l := []api.Word{w(string(text), 1)}
	p := params(300, 1, api.MaxWord)
	holdLearn(t, l, p, naive.Learn(l, p.Budget, p.Min)...)
}

// P17.2: of no learner; and of a zero one, which learns nothing.
func TestNil(t *testing.T) {
	for _, x := range []*Learner{nil, {}} {
		if got, ok := x.Step(); ok || got != m("", "") {
			t.Errorf("Step: %q, %v", got, ok)
		}
		if got := x.Merges(); len(got) != 0 {
			t.Errorf("Merges: %q", got)
		}
		if got := x.Words(); len(got) != 0 {
			t.Errorf("Words: %q", got)
		}
		if got := x.Stats(); got != (api.Stats{}) {
			t.Errorf("Stats: %+v", got)
		}
	}
}

// R4: what is handed in stays as it is, and isn't kept; what lies behind its length isn't read.
func TestMemory(t *testing.T) {
	l := []api.Word{w("ab", 2), w("abc", 1), w("", -1), w("xyz", 9)}
	before := slices.Clone(l)
	holdLearn(t, l[:2], all(), m("a", "b"), m("ab", "c"))
	x := begun(t, l[:2], all())
	if !slices.Equal(l, before) {
		t.Errorf("now %s", tell(l))
	}
	l[0], l[1] = w("zz", 5), w("", 0)
	if got, ok := x.Step(); !ok || got != m("a", "b") {
		t.Errorf("Step: %q, %v", got, ok)
	}
	holdWords(t, x, [][]string{{"ab"}, {"ab", "c"}})
}

// R4: what is answered may be written over.
func TestAnswers(t *testing.T) {
	x := begun(t, []api.Word{w("ab", 2), w("abc", 1)}, all())
	x.Step()
	merges, words := x.Merges(), x.Words()
	merges[0] = m("x", "y")
	words[0] = append(words[0], "z")
	words[1][0] = "z"
	words = append(words[:1], nil)
	if got := x.Merges(); !slices.Equal(got, []api.Merge{m("a", "b")}) {
		t.Errorf("Merges: %q", got)
	}
	holdWords(t, x, [][]string{{"ab"}, {"ab", "c"}})
	if got, ok := x.Step(); !ok || got != m("ab", "c") {
		t.Errorf("Step: %q, %v", got, ok)
	}
}

// R6: learners beside one another don't meddle, and asking doesn't change anything.
func TestBeside(t *testing.T) {
	l := tableOf(t, "low low lower newer newest")
	want := naive.Learn(l, math.MaxInt, 1)
	first, second := begun(t, l, all()), begun(t, l, all())
	for i, merge := range want {
		if got, ok := first.Step(); !ok || got != merge {
			t.Fatalf("first: %q, %v; want %q", got, ok, merge)
		}
		if got := len(second.Merges()); got != i {
			t.Fatalf("second has %d, want %d", got, i)
		}
		stats := second.Stats()
		second.Words()
		if s := second.Stats(); s != stats {
			t.Fatalf("second's Stats were %+v, are %+v", stats, s)
		}
		if got, ok := second.Step(); !ok || got != merge {
			t.Fatalf("second: %q, %v; want %q", got, ok, merge)
		}
	}
}

// R6: the same again; all pairs are there as often, so that an order of a map would show.
func TestSameAgain(t *testing.T) {
	l := tableOf(t, "abcdefgh hgfedcba acegbdfh abcdefghhgfedcba")
	want, stats, _ := Learn(l, all())
	for range 50 {
		got, s, e := Learn(l, all())
		if e != api.OK || s != stats || !slices.Equal(got, want) {
			t.Fatalf("%q, %+v; were %q, %+v", got, s, want, stats)
		}
	}
}

// P17.1: Learn is New and Steps, the numbers too.
func TestLearnIsSteps(t *testing.T) {
	next := mixed(1)
	for range 50 {
		l := mixedTable(next, "abcd", 30, 8)
		for _, p := range []api.Params{all(), params(4, 1, 8), params(9, 3, 8), params(0, 1, 8)} {
			x := begun(t, l, p)
			for more := true; more; {
				_, more = x.Step()
			}
			merges, s, e := Learn(l, p)
			if e != api.OK || s != x.Stats() || !slices.Equal(merges, x.Merges()) {
				t.Fatalf("%s, %v: %q, %+v; by steps %q, %+v", tell(l), p, merges, s, x.Merges(), x.Stats())
			}
		}
	}
}
