package table

import (
	"fmt"
	"math"
	"math/big"
	"slices"
	"strconv"
	"strings"
	"testing"

	"gluepot/api"
)

func words(l ...api.Word) []api.Word { return l }

func word(text string, count int) api.Word { return api.Word{Text: text, Count: count} }

// tell writes a table for a message, long words shortened.
func tell(l []api.Word) string {
	var b strings.Builder
	for _, w := range l {
		fmt.Fprintf(&b, "(%.20q of %d bytes, %d)", w.Text, len(w.Text), w.Count)
	}
	return b.String()
}

// modelWeight works the weight out by the document's own words, with numbers that have no end.
func modelWeight(l []api.Word) (int, bool) {
	sum := new(big.Int)
	for _, w := range l {
		if w.Count < 0 {
			return 0, false
		}
		if w.Text != "" {
			product := new(big.Int).Mul(big.NewInt(int64(w.Count)), big.NewInt(int64(len(w.Text)-1)))
			sum.Add(sum, product)
		}
	}
	if sum.Cmp(big.NewInt(api.MaxCount)) > 0 {
		return 0, false
	}
	return int(sum.Int64()), true
}

// modelCheck asks for each cause by itself, at every place.
func modelCheck(l []api.Word) (int, api.Errno) {
	for i := range l {
		switch {
		case len(l[i].Text) == 0:
			return i, api.ErrArg
		case l[i].Count <= 0:
			return i, api.ErrArg
		case len(l[i].Text) >= 65537:
			return i, api.ErrWordTooLong
		case i > 0 && strings.Compare(l[i-1].Text, l[i].Text) >= 0:
			return i, api.ErrForm
		}
	}
	if _, ok := modelWeight(l); !ok {
		return len(l), api.ErrOverflow
	}
	return -1, api.OK
}

func modelPositions(l []api.Word) int {
	var all strings.Builder
	for _, w := range l {
		all.WriteString(w.Text)
	}
	return all.Len()
}

func holdCheck(t *testing.T, l []api.Word, want int, wantE api.Errno) {
	t.Helper()
	if at, e := Check(l); at != want || e != wantE {
		t.Errorf("Check of %s: %d, %d; want %d, %d", tell(l), at, e, want, wantE)
	}
}

func holdWeight(t *testing.T, l []api.Word, want int, wantOk bool) {
	t.Helper()
	if n, ok := Weight(l); n != want || ok != wantOk {
		t.Errorf("Weight of %s: %d, %v; want %d, %v", tell(l), n, ok, want, wantOk)
	}
}

func holdPositions(t *testing.T, l []api.Word, want int) {
	t.Helper()
	if n := Positions(l); n != want {
		t.Errorf("Positions of %s: %d; want %d", tell(l), n, want)
	}
}

func holdOf(t *testing.T, texts []string, want []api.Word, wantE api.Errno) {
	t.Helper()
	if l, e := Of(texts...); e != wantE || !slices.Equal(l, want) {
		t.Errorf("Of %.60q: %s, %d; want %s, %d", texts, tell(l), e, tell(want), wantE)
	}
}

// eachList hands do every list of at most size of these.
func eachList[T any](of []T, size int, do func([]T)) {
	var grow func(list []T)
	grow = func(list []T) {
		do(list)
		if len(list) < size {
			for _, x := range of {
				grow(append(list[:len(list):len(list)], x))
			}
		}
	}
	grow(nil)
}

// P8.1: tables that are right.
func TestRight(t *testing.T) {
	most := strings.Repeat("a", api.MaxWord)
	for _, l := range [][]api.Word{
		nil,
		{},
		{word("a", 1)},
		{word("ab", 3), word("b", 2)},
		{word("a", 1), word("ab", 2), word("b", 1)},
		{word("\x00", 1), word("\x00\x00", 1), word("\x00\xff", 1), word(" ", 1), word("Z", 1), word("a", 1), word("a\x00", 1), word("a\xff", 1), word("\x7f", 1), word("\x80", 1), word("é", 1), word("\uffff", 1), word("\U00010000", 1), word("\xff", 1), word("\xff\xff", 1)},
		{word(most, 1)},
		{word("a", 1), word(most, 1), word("b", 1)},
		{word(most, math.MaxInt/(api.MaxWord-1))},
	} {
		holdCheck(t, l, -1, api.OK)
	}
}

// P8.1: a word that is wrong by itself, at every place of a table that is right else.
func TestWrongWord(t *testing.T) {
	long := strings.Repeat("c", api.MaxWord+1)
	for _, x := range []struct {
		w api.Word
		e api.Errno
	}{
		{word("", 1), api.ErrArg},
		{word("", 0), api.ErrArg},
		{word("", math.MaxInt), api.ErrArg},
		{word("c", 0), api.ErrArg},
		{word("c", -1), api.ErrArg},
		{word("c", math.MinInt), api.ErrArg},
		{word(long, 1), api.ErrWordTooLong},
		{word(long+long, math.MaxInt), api.ErrWordTooLong},
		// ErrArg is looked for ahead of ErrWordTooLong.
		{word(long, 0), api.ErrArg},
		{word(long, -1), api.ErrArg},
	} {
		holdCheck(t, words(x.w), 0, x.e)
		holdCheck(t, words(x.w, word("d", 1)), 0, x.e)
		holdCheck(t, words(word("a", 1), x.w, word("d", 1)), 1, x.e)
		holdCheck(t, words(word("a", 1), word("b", 1), x.w), 2, x.e)
		// What the word is wrong by itself is looked for ahead of its order.
		holdCheck(t, words(word("e", 1), x.w), 1, x.e)
		// The first of two.
		holdCheck(t, words(word("a", 1), x.w, x.w), 1, x.e)
		holdCheck(t, words(word("a", 1), x.w, word("", -1)), 1, x.e)
		holdCheck(t, words(word("b", 1), word("a", 1), x.w), 1, api.ErrForm)
		// A weight that isn't within is looked for behind all words.
		holdCheck(t, words(word("abc", math.MaxInt), word("b", 1), x.w), 2, x.e)
	}
}

// P8.1: a word that isn't above the one ahead of it, of whatever bytes.
func TestOrder(t *testing.T) {
	rising := []string{"\x00", "\x00\x00", "\x00\xff", " ", "10", "9", "A", "Z", "a", "a\x00", "aa", "ab", "a\xff", "b", "\x7f", "\x80", "\xc3", "\xc3\xa9", "\uffff", "\U00010000", "\xff", "\xff\xff"}
	for i, ahead := range rising {
		for j, text := range rising {
			l := words(word(ahead, 1), word(text, 1))
			if i < j {
				holdCheck(t, l, -1, api.OK)
			} else {
				holdCheck(t, l, 1, api.ErrForm)
			}
		}
	}
	// The one ahead counts, not one further ahead; and the first place that is wrong.
	holdCheck(t, words(word("a", 1), word("c", 1), word("b", 1)), 2, api.ErrForm)
	holdCheck(t, words(word("b", 1), word("a", 1), word("c", 1)), 1, api.ErrForm)
	holdCheck(t, words(word("c", 1), word("b", 1), word("a", 1)), 1, api.ErrForm)
	holdCheck(t, words(word("a", 1), word("b", 1), word("c", 1), word("c", 2)), 3, api.ErrForm)
	holdCheck(t, words(word("abc", math.MaxInt), word("a", 1)), 1, api.ErrForm)
	most := strings.Repeat("a", api.MaxWord)
	holdCheck(t, words(word(most, 1), word(most, 1)), 1, api.ErrForm)
	holdCheck(t, words(word(most, 1), word(most[1:], 1)), 1, api.ErrForm)
}

// P8.1: the weight of a table whose words are right, at the edge.
func TestHeavy(t *testing.T) {
	for _, x := range []struct {
		l []api.Word
		n int
	}{
		{words(word("a", math.MaxInt)), 0},
		{words(word("a", math.MaxInt), word("b", math.MaxInt)), 0},
		{words(word("ab", math.MaxInt)), math.MaxInt},
		{words(word("ab", math.MaxInt), word("b", math.MaxInt)), math.MaxInt},
		{words(word("ab", math.MaxInt-1), word("bc", 1)), math.MaxInt},
		{words(word("abc", math.MaxInt/2)), math.MaxInt - 1},
		{words(word("abc", math.MaxInt/2), word("bc", 1)), math.MaxInt},
		{words(word("aaaaaaaa", math.MaxInt/7)), math.MaxInt},
	} {
		holdCheck(t, x.l, -1, api.OK)
		holdWeight(t, x.l, x.n, true)
	}
	for _, l := range [][]api.Word{
		{word("abc", math.MaxInt)},
		{word("abc", math.MaxInt/2+1)},
		{word("aaaaaaaa", math.MaxInt/7+1)},
		{word("ab", math.MaxInt), word("bb", 1)},
		{word("ab", 1), word("bb", math.MaxInt)},
		{word("ab", math.MaxInt), word("bb", math.MaxInt)},
		{word("abc", math.MaxInt/2), word("bc", 2)},
		// Sums and products that would be small again if they went round.
		{word("abcde", 1<<62)},
		{word("abc", 1<<62), word("bcd", 1<<62)},
		{word("ab", math.MaxInt), word("bb", math.MaxInt), word("cc", 2), word("d", 1)},
	} {
		holdCheck(t, l, len(l), api.ErrOverflow)
		holdWeight(t, l, 0, false)
	}
}

// P8.1: the weight of any list, right or not.
func TestWeight(t *testing.T) {
	long := strings.Repeat("a", api.MaxWord+1)
	for _, x := range []struct {
		l  []api.Word
		n  int
		ok bool
	}{
		{nil, 0, true},
		{words(), 0, true},
		{words(word("ab", 3), word("b", 2)), 3, true},
		{words(word("abc", 5), word("", 3), word("b", 0)), 10, true},
		// An empty word weighs nothing, and takes nothing away.
		{words(word("", math.MaxInt)), 0, true},
		{words(word("ab", 7), word("", 5)), 7, true},
		{words(word("", 5), word("ab", 7)), 7, true},
		{words(word("ab", math.MaxInt), word("", 1)), math.MaxInt, true},
		{words(word("ab", math.MaxInt), word("", 1), word("cd", 1)), 0, false},
		// A word that is there no time weighs nothing, and it needn't be right else.
		{words(word("abc", 0)), 0, true},
		{words(word("abc", 2), word("abc", 3), word("aa", 1)), 11, true},
		{words(word(long, 2)), 2 * api.MaxWord, true},
		// A count below 0 is wrong, whatever its word and whatever is beside it.
		{words(word("", -1)), 0, false},
		{words(word("a", -1)), 0, false},
		{words(word("ab", -1)), 0, false},
		{words(word("ab", math.MinInt)), 0, false},
		{words(word("a", math.MinInt)), 0, false},
		{words(word("abc", 5), word("a", -1)), 0, false},
		{words(word("a", -1), word("abc", 5)), 0, false},
		{words(word("ab", math.MaxInt), word("ab", 1), word("ab", -1)), 0, false},
	} {
		holdWeight(t, x.l, x.n, x.ok)
	}
}

// P8.1: positions hang on the bytes alone, of whatever list.
func TestPositions(t *testing.T) {
	for _, x := range []struct {
		l []api.Word
		n int
	}{
		{nil, 0},
		{words(), 0},
		{words(word("ab", 3), word("b", 2)), 3},
		{words(word("abc", -5), word("b", 1)), 4},
		{words(word("", 9)), 0},
		{words(word("ab", 0), word("ab", math.MinInt), word("a", math.MaxInt)), 5},
		{words(word("é\x00\xff", 1)), 4},
		{words(word(strings.Repeat("a", api.MaxWord+1), 2), word("b", 1)), api.MaxWord + 2},
	} {
		holdPositions(t, x.l, x.n)
	}
}

// P8.1: every short list, wrong ones among them, against the models.
func TestShortLists(t *testing.T) {
	long := strings.Repeat("b", api.MaxWord+1)
	of := words(word("a", 1), word("ab", math.MaxInt), word("abc", 1<<61), word("b", math.MaxInt), word("cd", 2), word("", 1), word("", -1), word("a", 0), word("cd", -1), word(long, 1))
	right := 0
	eachList(of, 4, func(l []api.Word) {
		at, e := modelCheck(l)
		holdCheck(t, l, at, e)
		n, ok := modelWeight(l)
		holdWeight(t, l, n, ok)
		holdPositions(t, l, modelPositions(l))
		if e == api.OK {
			right++
		}
	})
	if right < 10 {
		t.Errorf("only %d right tables among them", right)
	}
}

// P8.2: by examples; what is empty is an error wherever it stands.
func TestOf(t *testing.T) {
	long := strings.Repeat("a", api.MaxWord+1)
	for _, x := range []struct {
		texts []string
		want  []api.Word
		e     api.Errno
	}{
		{nil, nil, api.OK},
		{[]string{}, nil, api.OK},
		{[]string{"b", "a", "b"}, words(word("a", 1), word("b", 2)), api.OK},
		{[]string{"low", "low", "lower"}, words(word("low", 2), word("lower", 1)), api.OK},
		{[]string{"\xff", "a\x00", "\x00", "a", "é", " "}, words(word("\x00", 1), word(" ", 1), word("a", 1), word("a\x00", 1), word("é", 1), word("\xff", 1)), api.OK},
		// A word that is too long is counted too: it is Check that tells of it.
		{[]string{long, long[1:], long}, words(word(long[1:], 1), word(long, 2)), api.OK},
		{[]string{""}, nil, api.ErrArg},
		{[]string{"b", ""}, nil, api.ErrArg},
		{[]string{"", "b"}, nil, api.ErrArg},
		{[]string{"a", "", "b"}, nil, api.ErrArg},
		{[]string{long, ""}, nil, api.ErrArg},
	} {
		holdOf(t, x.texts, x.want, x.e)
	}
	if l, e := Of(); e != api.OK || len(l) != 0 {
		t.Error(l, e)
	}
}

// P8.2: every short list of words; what comes of it is a right table, and its positions and weight are of these words.
func TestOfShortLists(t *testing.T) {
	rising := []string{"", "\x00", "a", "aa", "b", "\xff"}
	eachList(rising, 5, func(texts []string) {
		if slices.Contains(texts, "") {
			holdOf(t, texts, nil, api.ErrArg)
			return
		}
		var want []api.Word
		weight := 0
		for _, text := range rising {
			count := 0
			for _, other := range texts {
				if other == text {
					count++
				}
			}
			if count > 0 {
				want = append(want, word(text, count))
				weight += count * (len(text) - 1)
			}
		}
		holdOf(t, texts, want, api.OK)
		l, _ := Of(texts...)
		holdCheck(t, l, -1, api.OK)
		holdWeight(t, l, weight, true)
		holdPositions(t, l, modelPositions(want))
	})
}

// P8.2: many words.
func TestOfMany(t *testing.T) {
	const many = 1 << 12
	var texts []string
	for i := range 2 * many {
		texts = append(texts, strconv.Itoa(i*7%many+many))
	}
	var want []api.Word
	for i := range many {
		want = append(want, word(strconv.Itoa(i+many), 2))
	}
	holdOf(t, texts, want, api.OK)
	holdCheck(t, want, -1, api.OK)
}

// P8.2: each parameter at its edges, the others right or not.
func TestParams(t *testing.T) {
	budgets := map[int]bool{math.MinInt: false, -1: false, 0: true, 1: true, 1<<20 - 1: true, 1 << 20: true, 1<<20 + 1: false, math.MaxInt: false}
	mins := map[int]bool{math.MinInt: false, -1: false, 0: false, 1: true, 2: true, 1 << 20: true, 1<<20 + 1: true, math.MaxInt: true}
	limits := map[int]bool{math.MinInt: false, -1: false, 0: false, 1: true, 2: true, 65535: true, 65536: true, 65537: false, math.MaxInt: false}
	for budget, budgetOk := range budgets {
		for least, leastOk := range mins {
			for limit, limitOk := range limits {
				want := api.ErrBadParam
				if budgetOk && leastOk && limitOk {
					want = api.OK
				}
				p := api.Params{Budget: budget, Min: least, Limit: limit}
				if e := Params(p); e != want {
					t.Errorf("%+v: %d; want %d", p, e, want)
				}
			}
		}
	}
	if e := Params(api.Params{}); e != api.ErrBadParam {
		t.Errorf("zero parameters: %d", e)
	}
}

// R4: what is handed in stays as it is, isn't shared, and what lies behind its length isn't read.
func TestMemory(t *testing.T) {
	memory := words(word("ab", 3), word("b", 2), word("", -1), word("a", 0))
	before := slices.Clone(memory)
	holdCheck(t, memory[:2], -1, api.OK)
	holdCheck(t, memory[1:2], -1, api.OK)
	holdWeight(t, memory[:2], 3, true)
	holdPositions(t, memory[:1], 2)
	holdCheck(t, memory, 2, api.ErrArg)
	holdWeight(t, memory, 0, false)
	if !slices.Equal(memory, before) {
		t.Errorf("now %s", tell(memory))
	}
	texts := []string{"b", "a", "", "c"}
	first, e := Of(texts[:2]...)
	second, _ := Of(texts[:2]...)
	if e != api.OK || !slices.Equal(texts, []string{"b", "a", "", "c"}) {
		t.Errorf("%d, now %q", e, texts)
	}
	first[0], first[1] = word("x", 9), word("y", 9)
	texts[0], texts[1] = "x", "y"
	if want := words(word("a", 1), word("b", 1)); !slices.Equal(second, want) {
		t.Errorf("the second is %s now", tell(second))
	}
	holdOf(t, []string{"b", "a"}, words(word("a", 1), word("b", 1)), api.OK)
}

// R6: the same again, behind errors too.
func TestSameAgain(t *testing.T) {
	for range 20 {
		holdOf(t, []string{"d", "c", ""}, nil, api.ErrArg)
		holdOf(t, []string{"d", "c", "b", "a"}, words(word("a", 1), word("b", 1), word("c", 1), word("d", 1)), api.OK)
		holdCheck(t, words(word("b", 1), word("a", 0)), 1, api.ErrArg)
		holdWeight(t, words(word("abc", math.MaxInt)), 0, false)
		holdWeight(t, words(word("abc", 4)), 8, true)
	}
}
