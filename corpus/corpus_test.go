package corpus

import (
	"math"
	"slices"
	"strings"
	"testing"

	"gluepot/api"
	"gluepot/source"
)

// want works out, by the document's own words and byte by byte, which words of the pieces are told ahead of the cause, and the cause. A fail that is a place, or the number of pieces, is where ErrRead comes.
func want(pieces []string, fail, limit int) (words []string, e api.Errno) {
	open := ""
	for place := 0; place < len(pieces) && place != fail; place++ {
		for i := range len(pieces[place]) {
			c := pieces[place][i : i+1]
			switch {
			case !strings.Contains("\t\n\r ", c):
				open += c
			case open != "":
				words, open = append(words, open), ""
			}
			if len(open) > limit {
				return words, api.ErrWordTooLong
			}
		}
	}
	if 0 <= fail && fail <= len(pieces) {
		return words, api.ErrRead
	}
	if open != "" {
		words = append(words, open)
	}
	return words, api.OK
}

func wantRead(t *testing.T, x any, limit int, words []string, e api.Errno) {
	t.Helper()
	got, gotE := Read(x, limit)
	if e != api.OK {
		words = nil
	}
	if gotE != e || !slices.Equal(got, words) {
		t.Errorf("Read with the limit %d: %.40q, %d; want %.40q, %d", limit, got, gotE, words, e)
	}
}

// wantEach holds Each against the words that it is to hand, with a do that tells false at the word stop (below 0: at none).
func wantEach(t *testing.T, x any, limit, stop int, words []string, e api.Errno) {
	t.Helper()
	var got []string
	n, gotE := Each(x, limit, func(word string) bool {
		got = append(got, word)
		return len(got)-1 != stop
	})
	if 0 <= stop && stop < len(words) {
		words, e = words[:stop+1], api.OK
	}
	if n != len(words) || gotE != e || !slices.Equal(got, words) {
		t.Errorf("Each with the limit %d, ended at the word %d: %d, %d, handed %.40q; want %d, %d, %.40q", limit, stop, n, gotE, got, len(words), e, words)
	}
}

// eachList hands do every list of at most size of the pieces.
func eachList(of []string, size int, do func([]string)) {
	var grow func(list []string)
	grow = func(list []string) {
		do(list)
		if len(list) < size {
			for _, piece := range of {
				grow(append(list[:len(list):len(list)], piece))
			}
		}
	}
	grow(nil)
}

// cases are those that a document's reader would write down first; the words are those ahead of the cause.
func cases() []struct {
	pieces      []string
	fail, limit int
	words       []string
	e           api.Errno
} {
	long := strings.Repeat("a", api.MaxWord)
	return []struct {
		pieces      []string
		fail, limit int
		words       []string
		e           api.Errno
	}{
		{[]string{"ab", "c d"}, -1, 9, []string{"abc", "d"}, api.OK},
		{nil, -1, 9, nil, api.OK},
		{[]string{"", " \t", "\r\n", ""}, -1, 9, nil, api.OK},
		{[]string{"b a", " b", " ", "a"}, -1, 1, []string{"b", "a", "b", "a"}, api.OK},
		{[]string{"\x00\xff \xc3", "\xa9 \v"}, -1, 2, []string{"\x00\xff", "\xc3\xa9", "\v"}, api.OK},
		// A word that is too long, then an error of the source; and the other way round.
		{[]string{"abc"}, 1, 2, nil, api.ErrWordTooLong},
		{[]string{"abc", "d"}, 1, 2, nil, api.ErrWordTooLong},
		{[]string{"ab", "c"}, 1, 2, nil, api.ErrRead},
		{[]string{"ab", "c"}, 2, 2, nil, api.ErrWordTooLong},
		{[]string{"abc"}, 0, 2, nil, api.ErrRead},
		{nil, 0, 2, nil, api.ErrRead},
		// The words ahead of the cause, without the one that is open.
		{[]string{"a b c", "d"}, 1, 9, []string{"a", "b"}, api.ErrRead},
		{[]string{"a b c"}, 1, 9, []string{"a", "b"}, api.ErrRead},
		{[]string{"a b c "}, 1, 9, []string{"a", "b", "c"}, api.ErrRead},
		{[]string{"a ", "b ccc d", "e f"}, -1, 2, []string{"a", "b"}, api.ErrWordTooLong},
		{[]string{"a cc", "c"}, -1, 2, []string{"a"}, api.ErrWordTooLong},
		// The greatest limit.
		{[]string{long}, -1, api.MaxWord, []string{long}, api.OK},
		{[]string{long[1:], "a b"}, -1, api.MaxWord, []string{long, "b"}, api.OK},
		{[]string{"b " + long, "a"}, -1, api.MaxWord, []string{"b"}, api.ErrWordTooLong},
		{[]string{long + "a"}, 1, api.MaxWord, nil, api.ErrWordTooLong},
	}
}

// P5.1: the words in their order, or none and the first cause.
func TestRead(t *testing.T) {
	for _, x := range cases() {
		wantRead(t, source.New(x.pieces, x.fail), x.limit, x.words, x.e)
	}
	wantRead(t, &source.Plain{Text: "low low lower"}, 5, []string{"low", "low", "lower"}, api.OK)
	wantRead(t, &source.Plain{Text: "low low lower"}, 4, nil, api.ErrWordTooLong)
}

// P5.2: each word is handed, those ahead of the cause too, and all are counted.
func TestEach(t *testing.T) {
	for _, x := range cases() {
		for stop := -1; stop <= len(x.words); stop++ {
			wantEach(t, source.New(x.pieces, x.fail), x.limit, stop, x.words, x.e)
		}
	}
}

// P5.1, P5.2: every short list of pieces, with every place of an error, every limit and every word at which it is ended.
func TestShortLists(t *testing.T) {
	eachList([]string{"", " ", "a", "bc", "d\n", "\te f", " ghi k"}, 3, func(pieces []string) {
		for fail := -1; fail <= len(pieces)+1; fail++ {
			for limit := 1; limit <= 7; limit++ {
				words, e := want(pieces, fail, limit)
				wantRead(t, source.New(pieces, fail), limit, words, e)
				for stop := -1; stop <= len(words); stop++ {
					wantEach(t, source.New(pieces, fail), limit, stop, words, e)
				}
				if n, gotE := Each(source.New(pieces, fail), limit, nil); n != len(words) || gotE != e {
					t.Errorf("Each of %q, %d with the limit %d and a nil do: %d, %d; want %d, %d", pieces, fail, limit, n, gotE, len(words), e)
				}
			}
		}
	})
}

// P5.1: the words hang on the text alone, not on how it is cut.
func TestCuts(t *testing.T) {
	const text = " low\tlow lower\r\nnewest  é "
	words := []string{"low", "low", "lower", "newest", "é"}
	for i := range len(text) + 1 {
		for j := i; j <= len(text); j++ {
			wantRead(t, source.New([]string{text[:i], text[i:j], text[j:]}, -1), 6, words, api.OK)
		}
	}
	wantRead(t, source.New(strings.Split(text, ""), -1), 6, words, api.OK)
}

// P5.2: a nil do is none that tells false.
func TestNilDo(t *testing.T) {
	for _, x := range cases() {
		if n, e := Each(source.New(x.pieces, x.fail), x.limit, nil); n != len(x.words) || e != x.e {
			t.Errorf("Each of %.40q with a nil do: %d, %d; want %d, %d", x.pieces, n, e, len(x.words), x.e)
		}
	}
	if n, e := Each(nil, 0, nil); n != 0 || e != api.ErrBadParam {
		t.Error(n, e)
	}
	if n, e := Each(nil, 1, nil); n != 0 || e != api.ErrKind {
		t.Error(n, e)
	}
}

// wrongLimits are those that aren't from 1 to MaxWord.
func wrongLimits() []int {
	return []int{0, -1, math.MinInt, api.MaxWord + 1, math.MaxInt}
}

// P5.1, P5.2: a wrong limit comes ahead of all, and the source isn't asked for anything.
func TestWrongLimit(t *testing.T) {
	for _, limit := range wrongLimits() {
		for _, x := range []any{source.New([]string{"a"}, -1), source.New([]string{"a"}, 0), nil, 7, source.Plain{Text: "a"}} {
			wantRead(t, x, limit, nil, api.ErrBadParam)
			wantEach(t, x, limit, -1, nil, api.ErrBadParam)
		}
		s := source.New([]string{"a b"}, -1)
		wantEach(t, s, limit, 0, nil, api.ErrBadParam)
		wantRead(t, s, limit, nil, api.ErrBadParam)
		wantRead(t, s, 1, []string{"a", "b"}, api.OK)
	}
}

// looksAlike has a Next, but not a source's.
type looksAlike struct{}

func (looksAlike) Next() (string, bool, api.Errno) { return "a", false, api.OK }

// P5.1, P5.2: what is no source, by whatever it resembles one.
func TestNoSource(t *testing.T) {
	for _, x := range []any{nil, 7, "a b", []byte("a b"), []string{"a", "b"}, looksAlike{}, &looksAlike{}, source.Plain{Text: "a"}, source.Script{}, func() {}, map[string]int{}} {
		for _, limit := range []int{1, api.MaxWord} {
			wantRead(t, x, limit, nil, api.ErrKind)
			wantEach(t, x, limit, 0, nil, api.ErrKind)
		}
	}
}

// P5.1: a nil pointer to a script or a plain is a source, without a piece (4).
func TestNilSources(t *testing.T) {
	for _, x := range []any{(*source.Script)(nil), (*source.Plain)(nil), &source.Plain{}, &source.Script{}} {
		wantRead(t, x, 1, nil, api.OK)
		wantEach(t, x, 1, 0, nil, api.OK)
	}
}

// ownSource tells its pieces in one memory, which it fills anew each time, and then its own error; it notes what it is asked.
type ownSource struct {
	pieces []string
	end    api.Errno
	memory [16]byte
	note   func(string)
}

func (s *ownSource) Next() (piece []byte, more bool, e api.Errno) {
	if s.note != nil {
		s.note("next")
	}
	if len(s.pieces) == 0 {
		return nil, false, s.end
	}
	clear(s.memory[:])
	n := copy(s.memory[:], s.pieces[0])
	s.pieces = s.pieces[1:]
	return s.memory[:n], true, api.OK
}

// P5.1, P5.2: a source's own error is told as it is, whatever its number.
func TestOwnErrors(t *testing.T) {
	for _, e := range []api.Errno{api.OK, api.ErrArg, api.ErrBadParam, api.ErrRead, api.ErrWordTooLong, api.ErrKind, 99} {
		pieces := []string{"a b", "", "c ", "d"}
		words := []string{"a", "bc"}
		if e == api.OK {
			words = append(words, "d")
		}
		wantRead(t, &ownSource{pieces: pieces, end: e}, 2, words, e)
		for stop := -1; stop <= len(words); stop++ {
			wantEach(t, &ownSource{pieces: pieces, end: e}, 2, stop, words, e)
		}
	}
}

// P5.2: a word is handed as soon as it is told, ahead of the next piece; nothing is asked any more behind a false, an error or the end.
func TestAsSoonAsTold(t *testing.T) {
	for _, x := range []struct {
		pieces []string
		end    api.Errno
		stop   string
		notes  string
	}{
		{[]string{"a b", "c", " d", "e f "}, api.OK, "", "next a next next bc next de f next"},
		{[]string{"a b", "c", " d", "e"}, api.OK, "", "next a next next bc next next de"},
		{[]string{"a b", "c", " d"}, api.ErrRead, "", "next a next next bc next"},
		{[]string{"a b", "c", " d"}, api.OK, "a", "next a"},
		{[]string{"a b", "c", " d"}, api.ErrRead, "bc", "next a next next bc"},
		{[]string{"a b c", "d"}, api.OK, "a", "next a"},
		{[]string{"a bcd e", "f "}, api.OK, "", "next a"},
		{[]string{"a bc", "d", "e f"}, api.OK, "", "next a next"},
	} {
		var notes []string
		note := func(s string) { notes = append(notes, s) }
		Each(&ownSource{pieces: x.pieces, end: x.end, note: note}, 2, func(word string) bool {
			note(word)
			return word != x.stop
		})
		if got := strings.Join(notes, " "); got != x.notes {
			t.Errorf("Each of %q: %s; want %s", x.pieces, got, x.notes)
		}
	}
}

// P5.2: what lies behind the piece at which it was ended is still there.
func TestLeftOver(t *testing.T) {
	s := source.New([]string{"a b ", "c ", "d"}, -1)
	wantEach(t, s, 1, 0, []string{"a", "b"}, api.OK)
	wantRead(t, s, 1, []string{"c", "d"}, api.OK)
	wantRead(t, s, 1, nil, api.OK)
}

// R4: what a source tells is neither changed nor kept, and a list of words may be written over.
func TestMemory(t *testing.T) {
	s := &ownSource{pieces: []string{"low l", "ow ", "lower"}}
	words, e := Read(s, 5)
	if got := string(s.memory[:5]); got != "lower" {
		t.Errorf("the piece is %q now", got)
	}
	clear(s.memory[:])
	if !slices.Equal(words, []string{"low", "low", "lower"}) || e != api.OK {
		t.Errorf("%q, %d", words, e)
	}
	words[0] = "x"
	wantRead(t, &ownSource{pieces: []string{"low l", "ow ", "lower"}}, 5, []string{"low", "low", "lower"}, api.OK)
}

// R6: the same source, read again from its beginning, has the same words.
func TestSameAgain(t *testing.T) {
	for range 3 {
		wantRead(t, source.New([]string{"b a", "a b"}, -1), 2, []string{"b", "aa", "b"}, api.OK)
		wantEach(t, source.New([]string{"b a", "a b"}, 2), 2, -1, []string{"b", "aa"}, api.ErrRead)
	}
}
