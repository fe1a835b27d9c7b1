package seq

import (
	"math"
	"slices"
	"strings"
	"testing"

	"gluepot/api"
)

func p(a, b int) api.Pair { return api.Pair{A: a, B: b} }

func by(a, b, n int) Change { return Change{Pair: p(a, b), By: n} }

// ints are a text's bytes as numbers.
func ints(word string) []int {
	var l []int
	for _, b := range []byte(word) {
		l = append(l, int(b))
	}
	return l
}

// modelPairs holds each place's pair against all that were found, and puts new ones where they belong.
func modelPairs(symbols []int) []Change {
	var l []Change
	for i := 0; i+1 < len(symbols); i++ {
		at := 0
		for at < len(l) && (l[at].Pair.A < symbols[i] || l[at].Pair.A == symbols[i] && l[at].Pair.B < symbols[i+1]) {
			at++
		}
		if at < len(l) && l[at].Pair.A == symbols[i] && l[at].Pair.B == symbols[i+1] {
			l[at].By++
		} else {
			l = slices.Insert(l, at, by(symbols[i], symbols[i+1], 1))
		}
	}
	return l
}

// modelMerge marks the places first, from the left to the right, and then writes a new list.
func modelMerge(symbols []int, q api.Pair, symbol int) (int, []int) {
	begins := make([]bool, len(symbols)+1)
	taken := make([]bool, len(symbols)+1)
	times := 0
	for i := 0; i+1 < len(symbols); i++ {
		if !taken[i] && symbols[i] == q.A && symbols[i+1] == q.B {
			begins[i], taken[i], taken[i+1] = true, true, true
			times++
		}
	}
	var l []int
	for i, x := range symbols {
		if begins[i] {
			l = append(l, symbol)
		} else if !taken[i] {
			l = append(l, x)
		}
	}
	return times, l
}

// modelChanges counts all pairs of both lists anew, and tells where they differ.
func modelChanges(ahead, behind []int) []Change {
	was, is := modelPairs(ahead), modelPairs(behind)
	var l []Change
	for _, x := range is {
		at := slices.IndexFunc(was, func(y Change) bool { return y.Pair == x.Pair })
		if at >= 0 {
			x.By -= was[at].By
		}
		l = append(l, x)
	}
	for _, y := range was {
		if !slices.ContainsFunc(is, func(x Change) bool { return x.Pair == y.Pair }) {
			l = append(l, Change{Pair: y.Pair, By: -y.By})
		}
	}
	l = slices.DeleteFunc(l, func(x Change) bool { return x.By == 0 })
	slices.SortFunc(l, func(x, y Change) int {
		if x.Pair.A < y.Pair.A || x.Pair.A == y.Pair.A && x.Pair.B < y.Pair.B {
			return -1
		}
		return 1
	})
	return l
}

// holdState looks at all that a sequence tells of itself.
func holdState(t *testing.T, s *Seq, want []int) {
	t.Helper()
	if got := s.Symbols(); !slices.Equal(got, want) {
		t.Errorf("symbols %v; want %v", got, want)
	}
	if got := s.Len(); got != len(want) {
		t.Errorf("%d symbols; want %d", got, len(want))
	}
	if got, pairs := s.Pairs(), modelPairs(want); !slices.Equal(got, pairs) {
		t.Errorf("pairs of %v: %v; want %v", want, got, pairs)
	}
}

// holdMerge merges, and looks at what is told and at what is there behind it.
func holdMerge(t *testing.T, s *Seq, q api.Pair, symbol, times int, changed []Change, want []int) {
	t.Helper()
	ahead := s.Symbols()
	n, l := s.Merge(q, symbol)
	if n != times || !slices.Equal(l, changed) {
		t.Errorf("merge of %v into %d in %v: %d, %v; want %d, %v", q, symbol, ahead, n, l, times, changed)
	}
	if got := s.Symbols(); !slices.Equal(got, want) {
		t.Errorf("merge of %v into %d in %v makes %v; want %v", q, symbol, ahead, got, want)
	}
	holdState(t, s, want)
}

// holdModel merges as the model does.
func holdModel(t *testing.T, s *Seq, q api.Pair, symbol int) {
	t.Helper()
	ahead := s.Symbols()
	times, want := modelMerge(ahead, q, symbol)
	holdMerge(t, s, q, symbol, times, modelChanges(ahead, want), want)
}

// P11.1: a word's symbols are its bytes, whatever they are.
func TestNew(t *testing.T) {
	every := make([]byte, 256)
	for i := range every {
		every[i] = byte(i)
	}
	for _, word := range []string{"", "a", "\x00", "\xff", "ab", "low", "a b\n", "é", "\xc3", "\xa9\xc3", "日本", "\xed\xa0\x80", "\xff\xfe\x00\x00", string(every)} {
		s := New(word)
		if s == nil {
			t.Fatalf("nil of %q", word)
		}
		holdState(t, s, ints(word))
	}
	if got := New("é\xffz").Symbols(); !slices.Equal(got, []int{0xc3, 0xa9, 0xff, 'z'}) {
		t.Error(got)
	}
}

// P11.1: overlapping pairs count, each pair is told once, rising by its left and then its right symbol.
func TestPairs(t *testing.T) {
	for _, x := range []struct {
		word string
		want []Change
	}{
		{"", nil},
		{"a", nil},
		{"aa", []Change{by('a', 'a', 1)}},
		{"aaa", []Change{by('a', 'a', 2)}},
		{"aaaa", []Change{by('a', 'a', 3)}},
		{"ab", []Change{by('a', 'b', 1)}},
		{"ba", []Change{by('b', 'a', 1)}},
		{"abab", []Change{by('a', 'b', 2), by('b', 'a', 1)}},
		{"cbabc", []Change{by('a', 'b', 1), by('b', 'a', 1), by('b', 'c', 1), by('c', 'b', 1)}},
		{"zazbzazc", []Change{by('a', 'z', 2), by('b', 'z', 1), by('z', 'a', 2), by('z', 'b', 1), by('z', 'c', 1)}},
		{"\xff\x00\x80\x7f\xff\x00", []Change{by(0, 128, 1), by(127, 255, 1), by(128, 127, 1), by(255, 0, 2)}},
	} {
		if got := New(x.word).Pairs(); !slices.Equal(got, x.want) {
			t.Errorf("pairs of %q: %v; want %v", x.word, got, x.want)
		}
	}
}

// P11.1: pairs rise by their numbers, not by their digits, those below 0 first.
func TestPairsOfAnySymbols(t *testing.T) {
	s := New("abcdefgh")
	for i, symbol := range []int{math.MaxInt, -1, math.MinInt, 1000} {
		s.Merge(p('a'+2*i, 'b'+2*i), symbol)
	}
	holdState(t, s, []int{math.MaxInt, -1, math.MinInt, 1000})
	want := []Change{by(math.MinInt, 1000, 1), by(-1, math.MinInt, 1), by(math.MaxInt, -1, 1)}
	if got := s.Pairs(); !slices.Equal(got, want) {
		t.Errorf("%v; want %v", got, want)
	}
	r := New("babcbdb")
	r.Merge(p('b', 'a'), 1000)
	r.Merge(p('b', 'c'), -5)
	r.Merge(p('b', 'd'), 99)
	want = []Change{by(-5, 99, 1), by(99, 'b', 1), by(1000, -5, 1)}
	if got := r.Pairs(); !slices.Equal(got, want) {
		t.Errorf("%v; want %v", got, want)
	}
}

// P11.2: the chapter's example, and others by hand.
func TestMergeExamples(t *testing.T) {
	for _, x := range []struct {
		word    string
		pair    api.Pair
		symbol  int
		times   int
		changed []Change
		want    []int
	}{
		{"aab", p('a', 'a'), 256, 1, []Change{by('a', 'a', -1), by('a', 'b', -1), by(256, 'b', 1)}, []int{256, 'b'}},
		{"ab", p('a', 'b'), 256, 1, []Change{by('a', 'b', -1)}, []int{256}},
		{"xaby", p('a', 'b'), 256, 1, []Change{by('a', 'b', -1), by('b', 'y', -1), by('x', 'a', -1), by('x', 256, 1), by(256, 'y', 1)}, []int{'x', 256, 'y'}},
		// From the left to the right: the last one of three is left.
		{"aaa", p('a', 'a'), 256, 1, []Change{by('a', 'a', -2), by(256, 'a', 1)}, []int{256, 'a'}},
		{"aaaa", p('a', 'a'), 256, 2, []Change{by('a', 'a', -3), by(256, 256, 1)}, []int{256, 256}},
		{"aaaaa", p('a', 'a'), 256, 2, []Change{by('a', 'a', -4), by(256, 'a', 1), by(256, 256, 1)}, []int{256, 256, 'a'}},
		{"baaab", p('a', 'a'), 256, 1, []Change{by('a', 'a', -2), by('b', 'a', -1), by('b', 256, 1), by(256, 'a', 1)}, []int{'b', 256, 'a', 'b'}},
		// Merges side by side share their border.
		{"ababab", p('a', 'b'), 256, 3, []Change{by('a', 'b', -3), by('b', 'a', -2), by(256, 256, 2)}, []int{256, 256, 256}},
		{"abxab", p('a', 'b'), 256, 2, []Change{by('a', 'b', -2), by('b', 'x', -1), by('x', 'a', -1), by('x', 256, 1), by(256, 'x', 1)}, []int{256, 'x', 256}},
		// A half at the end, and one at the beginning, is none.
		{"babba", p('a', 'b'), 256, 1, []Change{by('a', 'b', -1), by('b', 'a', -1), by('b', 'b', -1), by('b', 256, 1), by(256, 'b', 1)}, []int{'b', 256, 'b', 'a'}},
		// Only part of how often a pair is there changes.
		{"cabcac", p('a', 'b'), 256, 1, []Change{by('a', 'b', -1), by('b', 'c', -1), by('c', 'a', -1), by('c', 256, 1), by(256, 'c', 1)}, []int{'c', 256, 'c', 'a', 'c'}},
	} {
		holdMerge(t, New(x.word), x.pair, x.symbol, x.times, x.changed, x.want)
	}
}

// P11.2: a symbol of the pair itself, or one that stands there already; what is merged isn't merged again by the same call.
func TestMergeIntoKnownSymbols(t *testing.T) {
	for _, x := range []struct {
		word    string
		pair    api.Pair
		symbol  int
		times   int
		changed []Change
		want    []int
	}{
		{"aa", p('a', 'a'), 'a', 1, []Change{by('a', 'a', -1)}, []int{'a'}},
		{"aaa", p('a', 'a'), 'a', 1, []Change{by('a', 'a', -1)}, []int{'a', 'a'}},
		{"aaaa", p('a', 'a'), 'a', 2, []Change{by('a', 'a', -2)}, []int{'a', 'a'}},
		{"abb", p('a', 'b'), 'a', 1, []Change{by('b', 'b', -1)}, []int{'a', 'b'}},
		{"aab", p('a', 'b'), 'b', 1, []Change{by('a', 'a', -1)}, []int{'a', 'b'}},
		{"abab", p('a', 'b'), 'b', 2, []Change{by('a', 'b', -2), by('b', 'a', -1), by('b', 'b', 1)}, []int{'b', 'b'}},
		// What is taken away stands there anew, beside a symbol that was there: no change of it.
		{"cab", p('a', 'b'), 'a', 1, []Change{by('a', 'b', -1)}, []int{'c', 'a'}},
		{"abc", p('a', 'b'), 'b', 1, []Change{by('a', 'b', -1)}, []int{'b', 'c'}},
		{"abcc", p('a', 'b'), 'c', 1, []Change{by('a', 'b', -1), by('b', 'c', -1), by('c', 'c', 1)}, []int{'c', 'c', 'c'}},
		{"cabac", p('a', 'b'), 'c', 1, []Change{by('a', 'b', -1), by('b', 'a', -1), by('c', 'c', 1)}, []int{'c', 'c', 'a', 'c'}},
	} {
		holdMerge(t, New(x.word), x.pair, x.symbol, x.times, x.changed, x.want)
	}
}

// P11.2: a pair that isn't there changes nothing, whatever it and the symbol are.
func TestMergeOfNone(t *testing.T) {
	for _, word := range []string{"", "a", "b", "ba", "acb", "bbbaaa"} {
		s := New(word)
		for _, q := range []api.Pair{{}, p('a', 'b'), p('a', 256), p(-1, 'a'), p('a', -1), p(1<<32+'b', 'a'), p('b'+256, 'a'), p('b', 'a'+256), p(math.MinInt, math.MaxInt)} {
			for _, symbol := range []int{0, 'a', 'b', 256, -1, math.MinInt, math.MaxInt} {
				holdMerge(t, s, q, symbol, 0, nil, ints(word))
			}
		}
	}
}

// P11.2: every short word, with all pairs and symbols, against the model; and once more on what came of it.
func TestShortWords(t *testing.T) {
	of := []int{'a', 'b', 'c', 256}
	each := func(do func(q api.Pair, symbol int)) {
		for _, a := range of {
			for _, b := range of {
				for _, symbol := range of {
					do(p(a, b), symbol)
				}
			}
		}
	}
	words := []string{""}
	for from := 0; from < len(words); from++ {
		if word := words[from]; len(word) < 5 {
			words = append(words, word+"a", word+"b", word+"c")
		}
	}
	for _, word := range words {
		each(func(q api.Pair, symbol int) {
			s := New(word)
			holdModel(t, s, q, symbol)
			holdModel(t, s, p(symbol, symbol), 257)
			holdModel(t, s, p(q.A, symbol), 'a')
			holdModel(t, s, p(symbol, q.B), symbol)
		})
	}
}

// P11.2: longer words of two letters, in which merges stand side by side in all ways.
func TestWordsOfTwoLetters(t *testing.T) {
	for size := 6; size <= 10; size++ {
		for bits := range 1 << size {
			word := make([]byte, size)
			for i := range word {
				word[i] = byte('a' + bits>>i&1)
			}
			for _, q := range []api.Pair{p('a', 'a'), p('a', 'b')} {
				s := New(string(word))
				holdModel(t, s, q, 256)
				holdModel(t, s, p(256, 256), 257)
				holdModel(t, s, p(256, 'b'), 'b')
			}
		}
	}
}

// P11.2: merges one behind the other till one symbol is left; what is told of the changes keeps a count of the pairs right.
func TestChain(t *testing.T) {
	words := []string{"abracadabra", strings.Repeat("low", 20), strings.Repeat("a", 33), "\x00\xff\x00\x00\xff\xff\x00", strings.Repeat("é日", 9)}
	for _, word := range words {
		s := New(word)
		counts := map[api.Pair]int{}
		for _, c := range s.Pairs() {
			counts[c.Pair] = c.By
		}
		for symbol := 256; s.Len() > 1; symbol++ {
			pairs := s.Pairs()
			q := pairs[symbol*7%len(pairs)].Pair
			was := s.Len()
			n, l := s.Merge(q, symbol)
			if n < 1 || s.Len() != was-n {
				t.Fatalf("%q: %d merges of %d symbols leave %d", word, n, was, s.Len())
			}
			for _, c := range l {
				counts[c.Pair] += c.By
				if counts[c.Pair] == 0 {
					delete(counts, c.Pair)
				}
			}
			now := s.Pairs()
			if len(now) != len(counts) {
				t.Fatalf("%q: %v; the changes come to %v", word, now, counts)
			}
			for _, c := range now {
				if counts[c.Pair] != c.By {
					t.Fatalf("%q: %v; the changes come to %v", word, now, counts)
				}
			}
		}
	}
}

// P11.1, P11.2: words as long as they may be, and longer.
func TestLongWords(t *testing.T) {
	for _, size := range []int{api.MaxWord - 1, api.MaxWord, api.MaxWord + 1, 1 << 18} {
		s := New(strings.Repeat("a", size))
		if l := s.Pairs(); s.Len() != size || !slices.Equal(l, []Change{by('a', 'a', size-1)}) {
			t.Fatal(size, s.Len(), l)
		}
		half := size / 2
		want := []Change{by('a', 'a', 1-size)}
		if size%2 == 1 {
			want = append(want, by(256, 'a', 1))
		}
		want = append(want, by(256, 256, half-1))
		n, l := s.Merge(p('a', 'a'), 256)
		if n != half || s.Len() != size-half || !slices.Equal(l, want) {
			t.Fatal(size, n, s.Len(), l)
		}
		// The pair is at the very end.
		s = New(strings.Repeat("a", size-1) + "b")
		n, l = s.Merge(p('a', 'b'), 256)
		if n != 1 || s.Len() != size-1 || !slices.Equal(l, []Change{by('a', 'a', -1), by('a', 'b', -1), by('a', 256, 1)}) {
			t.Fatal(size, n, s.Len(), l)
		}
	}
}

// P11.1, P11.2: of a nil sequence: none, 0.
func TestNil(t *testing.T) {
	var s *Seq
	for range 2 {
		if s.Len() != 0 || len(s.Symbols()) != 0 || len(s.Pairs()) != 0 {
			t.Error(s.Len(), s.Symbols(), s.Pairs())
		}
		for _, q := range []api.Pair{{}, p('a', 'b'), p(-1, math.MaxInt)} {
			if n, l := s.Merge(q, 256); n != 0 || len(l) != 0 {
				t.Error(n, l)
			}
		}
	}
}

// R4: what is answered may be written over, and the sequence stays as it is; what was answered stays, too.
func TestMemory(t *testing.T) {
	s := New("abcab")
	symbols, pairs := s.Symbols(), s.Pairs()
	early := s.Symbols()
	clear(symbols)
	_ = append(symbols[:0], 1, 2, 3, 4, 5, 6)
	clear(pairs)
	holdState(t, s, ints("abcab"))
	n, changed := s.Merge(p('a', 'b'), 256)
	if n != 2 || !slices.Equal(early, ints("abcab")) {
		t.Errorf("%d; the symbols that were told are %v now", n, early)
	}
	clear(changed)
	late := s.Symbols()
	holdState(t, s, []int{256, 'c', 256})
	// A list that is written behind its length reaches nothing of the sequence.
	_ = append(late, 7, 8)
	holdMerge(t, s, p(256, 'c'), 257, 1, []Change{by('c', 256, -1), by(256, 'c', -1), by(257, 256, 1)}, []int{257, 256})
	if !slices.Equal(late, []int{256, 'c', 256}) {
		t.Errorf("the symbols that were told are %v now", late)
	}
}

// R4: sequences of one word share nothing.
func TestOthersStay(t *testing.T) {
	word := "ababc"
	first, second := New(word), New(word)
	first.Merge(p('a', 'b'), 256)
	holdState(t, first, []int{256, 256, 'c'})
	holdState(t, second, ints(word))
	if word != "ababc" {
		t.Error(word)
	}
}

// R6: the same again, on the same state.
func TestSameAgain(t *testing.T) {
	word := "the quick brown fox jumps over the lazy dog, and the cat"
	pairs := New(word).Pairs()
	n, changed := New(word).Merge(p('t', 'h'), 256)
	for range 50 {
		s := New(word)
		if got := s.Pairs(); !slices.Equal(got, pairs) {
			t.Fatalf("%v; ahead %v", got, pairs)
		}
		if m, got := s.Merge(p('t', 'h'), 256); m != n || !slices.Equal(got, changed) {
			t.Fatalf("%d, %v; ahead %d, %v", m, got, n, changed)
		}
	}
}
