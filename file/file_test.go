package file

import (
	"fmt"
	"slices"
	"strconv"
	"strings"
	"testing"

	"gluepot/api"
	"gluepot/hex"
	"gluepot/table"
	"gluepot/train"
)

func m(left, right string) api.Merge { return api.Merge{Left: left, Right: right} }

// numbered writes a line with its number ahead.
func numbered(number int, line string) string { return strconv.Itoa(number) + ":" + line }

// tell writes merges for a message, long sides and long lists shortened.
func tell(l []api.Merge) string {
	var b strings.Builder
	for _, x := range l[:min(len(l), 20)] {
		fmt.Fprintf(&b, "(%.20q of %d bytes, %.20q of %d bytes)", x.Left, len(x.Left), x.Right, len(x.Right))
	}
	return b.String()
}

// plainWrite is what stands in the file of right merges.
func plainWrite(l []api.Merge) string {
	lines := []string{"gluepot 1\n"}
	for _, x := range l {
		lines = append(lines, fmt.Sprintf("%x %x\n", x.Left, x.Right))
	}
	return strings.Join(lines, "")
}

// plainCheck goes through all merges ahead for each side.
func plainCheck(l []api.Merge) (int, api.Errno) {
	made := func(ahead []api.Merge, text string) bool {
		return slices.ContainsFunc(ahead, func(x api.Merge) bool { return x.Left+x.Right == text })
	}
	for i, x := range l {
		for _, side := range []string{x.Left, x.Right} {
			if len(side) != 1 && !made(l[:i], side) {
				return i, api.ErrSide
			}
		}
		if len(x.Left)+len(x.Right) > 65536 {
			return i, api.ErrWordTooLong
		}
		if made(l[:i], x.Left+x.Right) {
			return i, api.ErrRepeat
		}
	}
	return -1, api.OK
}

// plainLines goes byte by byte.
func plainLines(text string) []string {
	var lines []string
	begin := 0
	for i := range len(text) {
		if text[i] == 10 {
			lines = append(lines, numbered(len(lines)+1, text[begin:i]))
			begin = i + 1
		}
	}
	if begin < len(text) {
		lines = append(lines, numbered(len(lines)+1, text[begin:]))
	}
	return lines
}

func holdRight(t *testing.T, l []api.Merge) {
	t.Helper()
	if at, e := Check(l); at != -1 || e != api.OK {
		t.Fatalf("Check of %s: %d, %d; want -1, OK", tell(l), at, e)
	}
	if got, e := Write(l); got != plainWrite(l) || e != api.OK {
		t.Fatalf("Write of %s: %.200q, %d", tell(l), got, e)
	}
}

func holdWrong(t *testing.T, l []api.Merge, place int, want api.Errno) {
	t.Helper()
	if at, e := Check(l); at != place || e != want {
		t.Fatalf("Check of %s: %d, %d; want %d, %d", tell(l), at, e, place, want)
	}
	if got, e := Write(l); got != "" || e != want {
		t.Fatalf("Write of %s: %.200q, %d; want none, %d", tell(l), got, e, want)
	}
}

// holdPlain asks what the plain way answers.
func holdPlain(t *testing.T, l []api.Merge) {
	t.Helper()
	if at, e := plainCheck(l); e != api.OK {
		holdWrong(t, l, at, e)
		return
	}
	holdRight(t, l)
}

// collect gathers what a range over lines tells.
func collect(lines func(func(int, string) bool)) []string {
	var got []string
	for number, line := range lines {
		got = append(got, numbered(number, line))
	}
	return got
}

func holdLines(t *testing.T, text string, want ...string) {
	t.Helper()
	var all []string
	for i, line := range want {
		all = append(all, numbered(i+1, line))
	}
	if got := collect(Lines(text)); !slices.Equal(got, all) {
		t.Fatalf("Lines of %.200q: %.200q; want %.200q", text, got, all)
	}
}

// eachList hands do every list of at most size of these.
func eachList[T any](of []T, size int, do func([]T)) {
	var grow func(l []T)
	grow = func(l []T) {
		do(l)
		if len(l) < size {
			for _, x := range of {
				grow(append(slices.Clone(l), x))
			}
		}
	}
	grow(nil)
}

// mixed tells numbers that follow no short rule, but always the same ones.
func mixed(seed uint64) func(below int) int {
	return func(below int) int {
		seed = seed*6364136223846793005 + 1442695040888963407
		return int(seed >> 33 % uint64(below))
	}
}

// doubled makes merges of a and a, of aa and aa, and so on, the last of which makes the longest text that there is.
func doubled() []api.Merge {
	text := strings.Repeat("a", api.MaxWord)
	var l []api.Merge
	for side := 1; side < api.MaxWord; side *= 2 {
		l = append(l, m(text[:side], text[:side]))
	}
	return l
}

// P18.1: what the file is, written out.
func TestWrite(t *testing.T) {
	for _, x := range []struct {
		l    []api.Merge
		want string
	}{
		{nil, "gluepot 1\n"},
		{[]api.Merge{}, "gluepot 1\n"},
		{[]api.Merge{m("a", "b")}, "gluepot 1\n61 62\n"},
		{[]api.Merge{m("a", "b"), m("ab", "\xff")}, "gluepot 1\n61 62\n6162 ff\n"},
		{[]api.Merge{m("l", "o"), m("lo", "w"), m("e", "r"), m("low", "er")}, "gluepot 1\n6c 6f\n6c6f 77\n65 72\n6c6f77 6572\n"},
		{[]api.Merge{m(" ", "\n"), m("\x00", " \n")}, "gluepot 1\n20 0a\n00 200a\n"},
		{[]api.Merge{m("\xc3", "\xa9")}, "gluepot 1\nc3 a9\n"},
	} {
		if got, e := Write(x.l); got != x.want || e != api.OK {
			t.Errorf("Write of %s: %q, %d; want %q", tell(x.l), got, e, x.want)
		}
		holdRight(t, x.l)
	}
	if Head != "gluepot 1" {
		t.Errorf("Head is %q", Head)
	}
}

// P18.1: merges that are right, by examples.
func TestRight(t *testing.T) {
	for _, l := range [][]api.Merge{
		nil,
		{},
		{m("a", "a")},
		{m("a", "b"), m("b", "a")},
		{m("a", "b"), m("ab", "ab")},
		{m("a", "b"), m("b", "c"), m("ab", "c")},
		{m("a", "b"), m("b", "c"), m("a", "bc")},
		{m("a", "b"), m("c", "d"), m("ab", "cd"), m("abcd", "a"), m("a", "abcd")},
		{m("\x00", "\x00"), m("\xff", "\xff"), m("\x00\x00", "\xff\xff")},
		// A text may be a side again and again.
		{m("a", "b"), m("ab", "a"), m("ab", "b"), m("ab", "ab"), m("a", "ab")},
	} {
		holdRight(t, l)
	}
}

// P18.1: a side that has neither one byte nor was made ahead.
func TestSide(t *testing.T) {
	for _, x := range []struct {
		l  []api.Merge
		at int
	}{
		{[]api.Merge{m("", "")}, 0},
		{[]api.Merge{m("", "b")}, 0},
		{[]api.Merge{m("a", "")}, 0},
		{[]api.Merge{m("ab", "c")}, 0},
		{[]api.Merge{m("a", "bc")}, 0},
		{[]api.Merge{m("é", "a")}, 0},
		{[]api.Merge{m("a", "é")}, 0},
		// What the merge makes itself, and what is made behind it, isn't made ahead.
		{[]api.Merge{m("aa", "a")}, 0},
		{[]api.Merge{m("ab", "c"), m("a", "b")}, 0},
		{[]api.Merge{m("a", "b"), m("abc", "d"), m("ab", "c")}, 1},
		{[]api.Merge{m("a", "b"), m("c", "abc"), m("ab", "c")}, 1},
		// A side that is longer, shorter or other than what was made.
		{[]api.Merge{m("a", "b"), m("ab", "c"), m("bc", "d")}, 2},
		{[]api.Merge{m("a", "b"), m("ba", "c")}, 1},
		{[]api.Merge{m("a", "b"), m("ab\x00", "c")}, 1},
		{[]api.Merge{m("a", "b"), m("AB", "c")}, 1},
		{[]api.Merge{m("a", "b"), m("c", "d"), m("ac", "bd")}, 2},
		{[]api.Merge{m("a", "b"), m("c", "d"), m("ab", "")}, 2},
		{[]api.Merge{m("a", "b"), m("c", "d"), m("", "ab")}, 2},
		// The first of several that are wrong.
		{[]api.Merge{m("a", "b"), m("x", "yz"), m("a", "b")}, 1},
		{[]api.Merge{m("a", "b"), m("xy", "z"), m("", "")}, 1},
	} {
		holdWrong(t, x.l, x.at, api.ErrSide)
	}
}

// P18.1: both sides, one behind the other, were made ahead, of the same sides or of others.
func TestRepeat(t *testing.T) {
	for _, x := range []struct {
		l  []api.Merge
		at int
	}{
		{[]api.Merge{m("a", "b"), m("a", "b")}, 1},
		{[]api.Merge{m("a", "a"), m("a", "a"), m("a", "a")}, 1},
		{[]api.Merge{m("a", "a"), m("aa", "a"), m("a", "aa")}, 2},
		{[]api.Merge{m("a", "b"), m("b", "c"), m("ab", "c"), m("a", "bc")}, 3},
		{[]api.Merge{m("a", "b"), m("b", "c"), m("a", "bc"), m("ab", "c")}, 3},
		{[]api.Merge{m("a", "b"), m("c", "d"), m("e", "f"), m("a", "b"), m("", "")}, 3},
		// Ahead of a wrong side behind it.
		{[]api.Merge{m("a", "b"), m("a", "b"), m("xy", "z")}, 1},
	} {
		holdWrong(t, x.l, x.at, api.ErrRepeat)
	}
}

// P18.1: the longest text that may be made, and one byte more.
func TestTooLong(t *testing.T) {
	l := doubled()
	longest := strings.Repeat("a", api.MaxWord)
	holdRight(t, l)
	for _, x := range []api.Merge{m(longest, "a"), m("a", longest), m(longest, "b"), m(longest, longest), m(longest, "aa"), m(longest[:api.MaxWord/2], longest)} {
		wrong := append(slices.Clone(l), x)
		holdWrong(t, wrong, len(l), api.ErrWordTooLong)
		holdWrong(t, append(wrong, m("", "")), len(l), api.ErrWordTooLong)
	}
	// A side that isn't made ahead is told ahead of the length, be the side longer than what can be made or not.
	for _, x := range []api.Merge{m(longest, ""), m("", longest), m(longest, "ab"), m("aaa", longest), m(longest+"a", "a"), m("a", longest+"a"), m(longest+longest, longest)} {
		holdWrong(t, append(slices.Clone(l), x), len(l), api.ErrSide)
	}
	holdWrong(t, append(l, m(longest[:api.MaxWord/2], longest[:api.MaxWord/2])), len(l), api.ErrRepeat)
}

// P18.1: a text of just one byte less, then just as many, then one more, byte by byte.
func TestTooLongByOne(t *testing.T) {
	longest := strings.Repeat("a", api.MaxWord)
	var l []api.Merge
	// The doubles up to the half, then each half of what is left: 32768, 49152, .. 65535.
	for side := 1; side < api.MaxWord/2; side *= 2 {
		l = append(l, m(longest[:side], longest[:side]))
	}
	have := api.MaxWord / 2
	for side := have / 2; side >= 1; side /= 2 {
		l = append(l, m(longest[:have], longest[:side]))
		have += side
	}
	if have != api.MaxWord-1 {
		t.Fatal(have)
	}
	holdRight(t, l)
	for _, last := range []api.Merge{m(longest[:have], "a"), m("b", longest[:have])} {
		holdRight(t, append(slices.Clone(l), last))
		holdWrong(t, append(slices.Clone(l), last, m(last.Left+last.Right, "c")), len(l)+1, api.ErrWordTooLong)
	}
	for _, last := range []api.Merge{m(longest[:have], "aa"), m("aa", longest[:have])} {
		holdWrong(t, append(slices.Clone(l), last), len(l), api.ErrWordTooLong)
	}
}

// P18.1: every list of at most three merges of these sides.
func TestShortLists(t *testing.T) {
	var merges []api.Merge
	for _, left := range []string{"", "a", "\xff", "aa", "a\xff", "aaa", "aa\xff"} {
		for _, right := range []string{"", "a", "\xff", "aa", "a\xff", "\xffa"} {
			merges = append(merges, m(left, right))
		}
	}
	eachList(merges, 3, func(l []api.Merge) { holdPlain(t, l) })
}

// P18.1: longer lists of a few merges, right up to a place, or all through.
func TestListsOfFew(t *testing.T) {
	merges := []api.Merge{m("a", "b"), m("b", "a"), m("ab", "a"), m("a", "ba"), m("aba", "b"), m("ab", "ab")}
	eachList(merges, 6, func(l []api.Merge) { holdPlain(t, l) })
}

// P18.1: long lists, whose sides are mostly what was made ahead.
func TestMixedLists(t *testing.T) {
	next := mixed(18)
	rights := 0
	for round := range 300 {
		texts := []string{"a", "b", "\x00"}
		var l []api.Merge
		for range 1 + next(40) {
			x := m(texts[next(len(texts))], texts[next(len(texts))])
			if slices.Contains(texts, x.Left+x.Right) && round%4 != 0 {
				continue
			}
			if round%4 == 1 && next(60) == 0 {
				x.Right += "a"
			}
			l, texts = append(l, x), append(texts, x.Left+x.Right)
		}
		if _, e := plainCheck(l); e == api.OK {
			rights++
		}
		holdPlain(t, l)
	}
	if rights < 100 || rights > 290 {
		t.Errorf("%d of the lists are right", rights)
	}
}

// P18.1: all pairs of bytes, so that each byte is a side of its own.
func TestAllBytes(t *testing.T) {
	var l []api.Merge
	for left := range api.Bytes {
		for right := range api.Bytes {
			l = append(l, m(string([]byte{byte(left)}), string([]byte{byte(right)})))
		}
	}
	holdRight(t, l)
	holdWrong(t, append(l, m("z", "z")), len(l), api.ErrRepeat)
}

// P18.1: many merges, each longer by one byte than the one ahead.
func TestChain(t *testing.T) {
	text := strings.Repeat("abcd", 500)
	var l []api.Merge
	for i := 1; i < len(text); i++ {
		l = append(l, m(text[:i], text[i:i+1]))
	}
	holdRight(t, l)
	for at := 1; at < len(l); at += 97 {
		holdWrong(t, slices.Delete(slices.Clone(l), at-1, at), at-1, api.ErrSide)
		holdWrong(t, slices.Insert(slices.Clone(l), at, l[at-1]), at, api.ErrRepeat)
	}
}

// P4: what is learnt is right, and the file's lines are its merges' digits.
func TestLearnt(t *testing.T) {
	words, _ := table.Of(strings.Fields("low low lower lowest newer newest wide wider widest aaaaaaaa abababab \xff\xff\x00\xff\xff\x00 é é")...)
	l, _, e := train.Learn(words, api.Params{Budget: 999, Min: 1, Limit: 99})
	if e != api.OK || len(l) < 20 {
		t.Fatal(len(l), e)
	}
	for n := range len(l) + 1 {
		holdRight(t, l[:n])
	}
	text, _ := Write(l)
	for number, line := range Lines(text) {
		if number == 1 {
			if line != Head {
				t.Errorf("the first line is %q", line)
			}
			continue
		}
		left, right, _ := strings.Cut(line, " ")
		left, ok := hex.Take(left)
		right, also := hex.Take(right)
		if l[number-2] != m(left, right) || !ok || !also {
			t.Errorf("line %d: %q", number, line)
		}
	}
}

// P18.2: by examples.
func TestLines(t *testing.T) {
	holdLines(t, "")
	holdLines(t, "a", "a")
	holdLines(t, "a\n", "a")
	holdLines(t, "\n", "")
	holdLines(t, "\n\n", "", "")
	holdLines(t, "\na", "", "a")
	holdLines(t, "a\n\n", "a", "")
	holdLines(t, "a\nb", "a", "b")
	holdLines(t, "a\nb\n", "a", "b")
	holdLines(t, "\n\na\n b", "", "", "a", " b")
	holdLines(t, "gluepot 1\n61 62\n", "gluepot 1", "61 62")
	// No byte but the line feed ends a line, and none is left out.
	holdLines(t, "a\r\nb\r", "a\r", "b\r")
	holdLines(t, "a\x00\v\f\r\u0085\u2028\u2029\xff\xc2\n \t", "a\x00\v\f\r\u0085\u2028\u2029\xff\xc2", " \t")
	holdLines(t, " \n ", " ", " ")
	holdLines(t, "\\n", "\\n")
}

// P18.2: all short texts, and each byte ahead of a line feed and behind it.
func TestShortTexts(t *testing.T) {
	eachList([]byte("a\n\r\xff"), 6, func(l []byte) {
		if got, want := collect(Lines(string(l))), plainLines(string(l)); !slices.Equal(got, want) {
			t.Fatalf("Lines of %q: %q; want %q", l, got, want)
		}
	})
	for i := range api.Bytes {
		text := string([]byte{byte(i), '\n', byte(i), byte(i), '\n', '\n', byte(i)})
		if got, want := collect(Lines(text)), plainLines(text); !slices.Equal(got, want) {
			t.Fatalf("Lines of %q: %q; want %q", text, got, want)
		}
	}
}

// P18.2: long lines, and many.
func TestLongTexts(t *testing.T) {
	line := strings.Repeat("ab ", 100000)
	holdLines(t, line, line)
	holdLines(t, line+"\n"+line, line, line)
	holdLines(t, "\n"+line+"\n\n", "", line, "")
	holdLines(t, strings.Repeat("\n", 100000), make([]string, 100000)...)
	next := mixed(2)
	text := make([]byte, 100000)
	for i := range text {
		text[i] = byte(next(16))
	}
	if got, want := collect(Lines(string(text))), plainLines(string(text)); !slices.Equal(got, want) {
		t.Errorf("%d lines; want %d", len(got), len(want))
	}
}

// P18.2: one by one; once no more are wanted, none is told.
func TestLeave(t *testing.T) {
	for _, text := range []string{"a", "a\n", "\n\n\n", "a\nb\nc", "a\nb\nc\n"} {
		want := plainLines(text)
		for stop := 1; stop <= len(want); stop++ {
			var got []string
			Lines(text)(func(number int, line string) bool {
				got = append(got, numbered(number, line))
				return len(got) < stop
			})
			if !slices.Equal(got, want[:stop]) {
				t.Errorf("Lines of %q, left at %d: %q", text, stop, got)
			}
		}
	}
	Lines("")(func(int, string) bool {
		t.Error("a line of no text")
		return false
	})
}

// R3: the function is never nil.
func TestNeverNil(t *testing.T) {
	for _, text := range []string{"", "\n", "a"} {
		if Lines(text) == nil {
			t.Errorf("Lines of %q: nil", text)
		}
	}
}

// R6: the same lines may be ranged over again, from the first on, within one another too, and though they were left.
func TestLinesAgain(t *testing.T) {
	text := "a\nb\n\nc"
	lines, want := Lines(text), plainLines(text)
	for range 3 {
		for number := range lines {
			if number == 2 {
				break
			}
		}
		if got := collect(lines); !slices.Equal(got, want) {
			t.Errorf("again: %q", got)
		}
	}
	outer := 0
	for number, line := range lines {
		if got := collect(lines); !slices.Equal(got, want) {
			t.Errorf("within: %q", got)
		}
		if want[outer] != numbered(number, line) {
			t.Errorf("line %d: %d, %q", outer, number, line)
		}
		outer++
	}
	if outer != len(want) {
		t.Errorf("%d lines, want %d", outer, len(want))
	}
}

// R4: what is handed in stays as it is, and what lies behind its length isn't read.
func TestMemory(t *testing.T) {
	for _, n := range []int{0, 1, 2} {
		l := []api.Merge{m("a", "b"), m("ab", "c"), m("xy", ""), m("a", "b")}
		before := slices.Clone(l)
		holdRight(t, l[:n])
		if !slices.Equal(l, before) {
			t.Errorf("now %s", tell(l))
		}
	}
	l := []api.Merge{m("a", "b"), m("ab", ""), m("c", "d")}
	before := slices.Clone(l)
	holdWrong(t, l[:2], 1, api.ErrSide)
	if !slices.Equal(l, before) {
		t.Errorf("now %s", tell(l))
	}
}

// R4: the file hangs no more on the list it was written of.
func TestWriteKeepsNothing(t *testing.T) {
	l := []api.Merge{m("a", "b"), m("ab", "c")}
	text, _ := Write(l)
	l[0], l[1] = m("x", "y"), m("", "")
	if text != "gluepot 1\n61 62\n6162 63\n" {
		t.Errorf("%q", text)
	}
	holdWrong(t, l, 1, api.ErrSide)
	holdRight(t, l[:1])
}

// R6: the same again; nothing stays from the call ahead.
func TestSameAgain(t *testing.T) {
	right := []api.Merge{m("a", "b"), m("b", "c"), m("ab", "bc")}
	for range 20 {
		holdRight(t, right)
		holdWrong(t, right[2:], 0, api.ErrSide)
		holdWrong(t, append(slices.Clone(right), right...), 3, api.ErrRepeat)
	}
}
