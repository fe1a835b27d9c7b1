package split

import (
	"math"
	"slices"
	"strings"
	"testing"
)

func isGap(c rune) bool { return c == 9 || c == 10 || c == 13 || c == 32 }

// wantWords works the words out by the document's own words: the longest runs of bytes that aren't gaps.
func wantWords(s string) []string {
	var words []string
	for first := 0; first < len(s); first++ {
		last := first
		for last < len(s) && !isGap(rune(s[last])) {
			last++
		}
		if last > first {
			words = append(words, s[first:last])
			first = last
		}
	}
	return words
}

// ahead tells the words of s ahead of the first one that is longer than limit, and whether there is such a one.
func ahead(s string, limit int) ([]string, bool) {
	words := wantWords(s)
	for i, w := range words {
		if len(w) > limit {
			return words[:i], true
		}
	}
	return words, false
}

func cut(s string, size int) []string {
	var pieces []string
	for len(s) > size {
		pieces = append(pieces, s[:size])
		s = s[size:]
	}
	return append(pieces, s)
}

// feedAll hands p the pieces and ends it; false: Feed told so once.
func feedAll(p *Splitter, pieces []string) ([]string, bool) {
	var words []string
	good := true
	for _, piece := range pieces {
		more, ok := p.Feed([]byte(piece))
		words = append(words, more...)
		good = good && ok
	}
	return append(words, p.End()...), good
}

// eachText hands do every text of at most size bytes of the letters.
func eachText(letters string, size int, do func(string)) {
	var grow func(s string)
	grow = func(s string) {
		do(s)
		if len(s) < size {
			for _, c := range letters {
				grow(s + string(c))
			}
		}
	}
	grow("")
}

// eachCut hands do every way of cutting s into pieces that aren't empty.
func eachCut(s string, do func([]string)) {
	for mask := range 1 << max(len(s)-1, 0) {
		var pieces []string
		first := 0
		for i := 1; i < len(s); i++ {
			if mask>>(i-1)&1 == 1 {
				pieces = append(pieces, s[first:i])
				first = i
			}
		}
		do(append(pieces, s[first:]))
	}
}

// P3.1: just four of the 256 bytes are gaps.
func TestGap(t *testing.T) {
	for c := range 256 {
		if got, want := Gap(byte(c)), isGap(rune(c)); got != want {
			t.Errorf("Gap(%d) = %v, want %v", c, got, want)
		}
	}
}

// P3.1: the words of texts, with gaps at all places, and with bytes that look like gaps and aren't.
func TestWords(t *testing.T) {
	for _, x := range []struct {
		text string
		want []string
	}{
		{"", nil},
		{" ", nil},
		{" \t\r\n  ", nil},
		{"a", []string{"a"}},
		{"low low lower", []string{"low", "low", "lower"}},
		{" low", []string{"low"}},
		{"low ", []string{"low"}},
		{"\tlow\r\n  er\n", []string{"low", "er"}},
		{"a\tb\nc\rd e", []string{"a", "b", "c", "d", "e"}},
		{"a\x0bb\x0cc\x00d\x1fe!f", []string{"a\x0bb\x0cc\x00d\x1fe!f"}},
		{"a\x85b\xa0c", []string{"a\x85b\xa0c"}},
		{"a\u00a0b\u2003c\u3000d\u0085e\u2028f", []string{"a\u00a0b\u2003c\u3000d\u0085e\u2028f"}},
		{"\x89\x8a\x8d\xa0", []string{"\x89\x8a\x8d\xa0"}},
		{"é \xff\xfe \xc3", []string{"é", "\xff\xfe", "\xc3"}},
		{"a,b. c-d", []string{"a,b.", "c-d"}},
	} {
		if got := Words(x.text); !slices.Equal(got, x.want) {
			t.Errorf("Words(%q) = %q, want %q", x.text, got, x.want)
		}
	}
}

// P3.1: all texts of two bytes, and all short texts of two letters and two gaps; no word is empty.
func TestWordsOfAllShort(t *testing.T) {
	check := func(s string) {
		if got, want := Words(s), wantWords(s); !slices.Equal(got, want) || slices.Contains(got, "") {
			t.Errorf("Words(%q) = %q, want %q", s, got, want)
		}
	}
	for a := range 256 {
		for b := range 256 {
			check(string([]byte{byte(a), byte(b)}))
		}
	}
	eachText("ab \n", 6, check)
}

// P3.1: words that are longer than any limit of the program's are words, and so are many of them.
func TestWordsOfLongTexts(t *testing.T) {
	long := strings.Repeat("x", 1<<20-3)
	if got := Words(" " + long + " y"); !slices.Equal(got, []string{long, "y"}) {
		t.Errorf("%d words of one that is long and one that isn't", len(got))
	}
	many := Words(strings.Repeat("a ", 1<<19))
	if len(many) != 1<<19 {
		t.Fatalf("%d words, want %d", len(many), 1<<19)
	}
	for i, w := range many {
		if w != "a" {
			t.Fatalf("the word %d: %q", i, w)
		}
	}
}

type step struct {
	piece string
	want  []string
	ok    bool
	open  int
}

func walk(t *testing.T, p *Splitter, steps []step) {
	t.Helper()
	for i, x := range steps {
		got, ok := p.Feed([]byte(x.piece))
		if !slices.Equal(got, x.want) || ok != x.ok {
			t.Errorf("step %d: Feed(%.40q) = %.40q, %v, want %.40q, %v", i, x.piece, got, ok, x.want, x.ok)
		}
		if open := p.Open(); open != x.open {
			t.Errorf("step %d: Open() = %d behind Feed(%.40q), want %d", i, open, x.piece, x.open)
		}
	}
}

func wantEnd(t *testing.T, p *Splitter, want ...string) {
	t.Helper()
	if got := p.End(); !slices.Equal(got, want) {
		t.Errorf("End() = %q, want %q", got, want)
	}
	if open := p.Open(); open != 0 {
		t.Errorf("Open() = %d behind End, want 0", open)
	}
}

// P3.2: each piece tells the words that it ends, and what is left open.
func TestFeed(t *testing.T) {
	p := New(9)
	if open := p.Open(); open != 0 {
		t.Errorf("Open() = %d of a new splitter, want 0", open)
	}
	walk(t, p, []step{
		{"a", nil, true, 1},
		{"b c", []string{"ab"}, true, 1},
		{"", nil, true, 1},
		{"\xff\x00", nil, true, 3},
		{"\n", []string{"c\xff\x00"}, true, 0},
		{"\r\t ", nil, true, 0},
		{" d e  f\tg\n", []string{"d", "e", "f", "g"}, true, 0},
		{"h i", []string{"h"}, true, 1},
	})
	wantEnd(t, p, "i")
}

// P3.2: an End without an open word tells none; behind an End what comes is a new word.
func TestEnd(t *testing.T) {
	p := New(3)
	wantEnd(t, p)
	walk(t, p, []step{{"ab", nil, true, 2}})
	wantEnd(t, p, "ab")
	wantEnd(t, p)
	walk(t, p, []step{{"", nil, true, 0}, {" ", nil, true, 0}})
	wantEnd(t, p)
	walk(t, p, []step{{"cd", nil, true, 2}})
	wantEnd(t, p, "cd")
	walk(t, p, []step{{"efg", nil, true, 3}, {" h ", []string{"efg", "h"}, true, 0}})
	wantEnd(t, p)
}

// P3.2: a word of limit bytes is taken, one of a byte more isn't, in one piece and in many.
func TestLimit(t *testing.T) {
	for _, limit := range []int{1, 2, 3, 7, 64, 65536} {
		for _, size := range []int{1, 2, limit, limit + 1} {
			word := strings.Repeat("w", limit)
			if got, ok := feedAll(New(limit), cut(word+" "+word, size)); !slices.Equal(got, []string{word, word}) || !ok {
				t.Errorf("limit %d, pieces of %d: %d words, %v", limit, size, len(got), ok)
			}
			if got, ok := feedAll(New(limit), cut("a "+word+"w b", size)); !slices.Equal(got, []string{"a"}) || ok {
				t.Errorf("limit %d, pieces of %d, a word too long: %.20q, %v", limit, size, got, ok)
			}
		}
	}
}

// P3.2: limits below 1 are taken as 1, and there is none that is too great.
func TestLimitOutside(t *testing.T) {
	for _, limit := range []int{math.MinInt, math.MinInt + 1, -65536, -1, 0, 1} {
		p := New(limit)
		walk(t, p, []step{{"a b", []string{"a"}, true, 1}, {" c d", []string{"b", "c"}, true, 1}, {"e", nil, false, 0}})
		wantEnd(t, p)
	}
	for _, limit := range []int{1 << 17, math.MaxInt32, math.MaxInt - 1, math.MaxInt} {
		long := strings.Repeat("x", 1<<17)
		p := New(limit)
		walk(t, p, []step{{long, nil, true, 1 << 17}, {" a", []string{long}, true, 1}})
		wantEnd(t, p, "a")
	}
}

// P3.2: once a word was too long, the words ahead of it are told in that piece, and none from then on.
func TestTooLong(t *testing.T) {
	rest := []step{{"", nil, false, 0}, {" ", nil, false, 0}, {"a b ", nil, false, 0}, {"x", nil, false, 0}}
	for _, first := range []step{
		{"abcd", nil, false, 0},
		{"abcd e", nil, false, 0},
		{" abcdefgh ", nil, false, 0},
		{"a bc  def ghij k l", []string{"a", "bc", "def"}, false, 0},
		{"a abcd b abcd", []string{"a"}, false, 0},
	} {
		p := New(3)
		walk(t, p, append([]step{first}, rest...))
		wantEnd(t, p)
		walk(t, p, rest)
		wantEnd(t, p)
	}
	p := New(3)
	walk(t, p, []step{{"a b", []string{"a"}, true, 1}, {"cd", nil, true, 3}, {"e f", nil, false, 0}})
	wantEnd(t, p)
	walk(t, p, rest)
	q := New(3)
	walk(t, q, []step{{"ab", nil, true, 2}, {"c d efgh", []string{"abc", "d"}, false, 0}})
	wantEnd(t, q)
	walk(t, q, rest)
}

// P3.2: a piece that is nil is one without bytes.
func TestFeedNil(t *testing.T) {
	p := New(3)
	if got, ok := p.Feed(nil); len(got) != 0 || !ok {
		t.Errorf("Feed(nil) = %q, %v, want none, true", got, ok)
	}
	walk(t, p, []step{{"ab", nil, true, 2}})
	if got, ok := p.Feed(nil); len(got) != 0 || !ok || p.Open() != 2 {
		t.Errorf("Feed(nil) = %q, %v, open %d, want none, true, 2", got, ok, p.Open())
	}
	wantEnd(t, p, "ab")
}

// P3.2: a nil splitter tells none, false and 0.
func TestNilSplitter(t *testing.T) {
	var p *Splitter
	walk(t, p, []step{{"", nil, false, 0}, {"a b", nil, false, 0}, {" ", nil, false, 0}})
	wantEnd(t, p)
	if got, ok := p.Feed(nil); len(got) != 0 || ok {
		t.Errorf("Feed(nil) = %q, %v of a nil splitter, want none, false", got, ok)
	}
}

// P3.3: all short texts, cut in all ways, have the words of the whole; with a limit, those ahead of the first that is too long.
func TestAllCuts(t *testing.T) {
	eachText("ab \n", 6, func(s string) {
		eachCut(s, func(pieces []string) {
			for _, limit := range []int{1, 2, 6} {
				want, tooLong := ahead(s, limit)
				if got, ok := feedAll(New(limit), pieces); !slices.Equal(got, want) || ok == tooLong {
					t.Errorf("limit %d, pieces %q: %q, %v, want %q, %v", limit, pieces, got, ok, want, !tooLong)
				}
			}
		})
	})
}

// P3.3: a long text of all bytes, cut in pieces of many sizes, has the words of the whole.
func TestLongCuts(t *testing.T) {
	var b strings.Builder
	for i := range 1 << 15 {
		b.WriteByte(byte(i * i / 7))
	}
	s := b.String()
	want := wantWords(s)
	for _, size := range []int{1, 2, 3, 5, 16, 255, 256, 257, 4096, len(s) - 1, len(s)} {
		if got, ok := feedAll(New(len(s)), cut(s, size)); !slices.Equal(got, want) || !ok {
			t.Errorf("pieces of %d: %d words, %v, want %d, true", size, len(got), ok, len(want))
		}
	}
}

// P3.2: Open tells just the bytes of the last word so far, behind each byte of all short texts, and 0 once a word was too long.
func TestOpenByteByByte(t *testing.T) {
	eachText("ab ", 6, func(s string) {
		p := New(4)
		for i := range len(s) {
			p.Feed([]byte{s[i]})
			so := s[:i+1]
			want := len(so) - 1 - strings.LastIndexByte(so, ' ')
			if _, tooLong := ahead(so, 4); tooLong {
				want = 0
			}
			if got := p.Open(); got != want {
				t.Fatalf("%q: Open() = %d, want %d", so, got, want)
			}
		}
	})
}

// R4: a piece isn't kept, isn't changed, and what lies behind its length is neither read nor written.
func TestPieceIsLeftAlone(t *testing.T) {
	p := New(9)
	memory := []byte("ab cd ef gh")
	piece := memory[:4]
	words, ok := p.Feed(piece)
	if string(memory) != "ab cd ef gh" {
		t.Errorf("the memory is %q behind Feed", memory)
	}
	for i := range memory {
		memory[i] = ' '
	}
	more, ok2 := p.Feed([]byte("x "))
	if !slices.Equal(words, []string{"ab"}) || !slices.Equal(more, []string{"cx"}) || !ok || !ok2 {
		t.Errorf("%q, %v, then %q, %v", words, ok, more, ok2)
	}
}

// R4: words that were told stay as they were, whatever is fed later; writing over a list of them changes nothing else.
func TestToldWordsStay(t *testing.T) {
	p := New(9)
	first, _ := p.Feed([]byte("one two thr"))
	kept := slices.Clone(first)
	second, _ := p.Feed([]byte("ee four fi"))
	end := p.End()
	p.Feed([]byte("xxxxxxxx yyyyyyyy "))
	if !slices.Equal(first, kept) || !slices.Equal(second, []string{"three", "four"}) || !slices.Equal(end, []string{"fi"}) {
		t.Errorf("%q, %q, %q", first, second, end)
	}
	for _, l := range [][]string{first, second, end} {
		l = append(l, "?", "?")
		for i := range l {
			l[i] = "!"
		}
	}
	walk(t, p, []step{{"a b", []string{"a"}, true, 1}})
	wantEnd(t, p, "b")
}

// R6: splitters don't know of each other, and the same pieces have the same words each time.
func TestSplittersApart(t *testing.T) {
	p, q, r := New(5), New(5), New(1)
	walk(t, p, []step{{"ab", nil, true, 2}})
	walk(t, q, []step{{"cde", nil, true, 3}})
	walk(t, r, []step{{"xy", nil, false, 0}})
	walk(t, p, []step{{"f ", []string{"abf"}, true, 0}})
	walk(t, q, []step{{"g ", []string{"cdeg"}, true, 0}})
	for range 3 {
		if got := Words(" a b a"); !slices.Equal(got, []string{"a", "b", "a"}) {
			t.Errorf("%q", got)
		}
	}
}
