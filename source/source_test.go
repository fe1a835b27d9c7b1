package source

import (
	"math"
	"strings"
	"testing"

	"gluepot/api"
)

// told is what one Next tells.
type told struct {
	piece string
	more  bool
	e     api.Errno
}

func next(s Source) told {
	piece, more, e := s.Next()
	return told{string(piece), more, e}
}

// wantNext holds s against what it is to tell, and then against its last answer, twice more: from there on it is the same again.
func wantNext(t *testing.T, s Source, pieces []string, end api.Errno) {
	t.Helper()
	for i, want := range pieces {
		if got := next(s); got != (told{want, true, api.OK}) {
			t.Fatalf("Next %d: %.40v, want the piece %.40q", i, got, want)
		}
	}
	for range 3 {
		if got := next(s); got != (told{"", false, end}) {
			t.Fatalf("behind %d pieces: %.40v, want none, false and %d", len(pieces), got, end)
		}
	}
}

// want works out what New's script tells, by the document's own words: place by place.
func want(pieces []string, fail int) (tells []string, end api.Errno) {
	for place := 0; ; place++ {
		switch {
		case place == fail:
			return tells, api.ErrRead
		case place >= len(pieces):
			return tells, api.OK
		case len(pieces[place]) > 0:
			tells = append(tells, pieces[place])
		}
	}
}

// eachList hands do every list of at most size of the pieces.
func eachList(of []string, size int, do func([]string)) {
	var grow func(list []string)
	grow = func(list []string) {
		do(list)
		if len(list) < size {
			for _, piece := range of {
				grow(append(list[:len(list):len(list)], piece))
			}
		}
	}
	grow(nil)
}

func panics(do func()) (did bool) {
	defer func() { did = recover() != nil }()
	do()
	return false
}

// P4.1: pieces in their order, the empty ones left out, and an error in the place that fail names.
func TestScript(t *testing.T) {
	for _, x := range []struct {
		pieces []string
		fail   int
		tells  []string
		end    api.Errno
		size   int
	}{
		{nil, -1, nil, api.OK, 0},
		{nil, 0, nil, api.ErrRead, 0},
		{nil, 1, nil, api.OK, 0},
		{[]string{}, 0, nil, api.ErrRead, 0},
		{[]string{"a", "b"}, -1, []string{"a", "b"}, api.OK, 2},
		{[]string{"a", "b"}, 0, nil, api.ErrRead, 0},
		{[]string{"a", "b"}, 1, []string{"a"}, api.ErrRead, 1},
		{[]string{"a", "b"}, 2, []string{"a", "b"}, api.ErrRead, 2},
		{[]string{"a", "b"}, 3, []string{"a", "b"}, api.OK, 2},
		{[]string{"", "", ""}, -1, nil, api.OK, 0},
		{[]string{"", "", ""}, 1, nil, api.ErrRead, 0},
		{[]string{"", "", ""}, 3, nil, api.ErrRead, 0},
		{[]string{"", "", ""}, 4, nil, api.OK, 0},
		{[]string{"", "ab", "", "c", ""}, 1, nil, api.ErrRead, 0},
		{[]string{"", "ab", "", "c", ""}, 2, []string{"ab"}, api.ErrRead, 2},
		{[]string{"", "ab", "", "c", ""}, 3, []string{"ab"}, api.ErrRead, 2},
		{[]string{"", "ab", "", "c", ""}, 4, []string{"ab", "c"}, api.ErrRead, 3},
		{[]string{"", "ab", "", "c", ""}, 5, []string{"ab", "c"}, api.ErrRead, 3},
		{[]string{"", "ab", "", "c", ""}, 6, []string{"ab", "c"}, api.OK, 3},
		{[]string{"\x00", " ", "\n", "\xff\xfe", "é", "€"}, -1, []string{"\x00", " ", "\n", "\xff\xfe", "é", "€"}, api.OK, 10},
		{[]string{"a", "a", "a"}, 2, []string{"a", "a"}, api.ErrRead, 2},
	} {
		s := New(x.pieces, x.fail)
		if got := s.Size(); got != x.size {
			t.Errorf("New(%q, %d).Size() = %d, want %d", x.pieces, x.fail, got, x.size)
		}
		wantNext(t, s, x.tells, x.end)
	}
}

// P4.1: all short lists of pieces, with all fails at them and around them; the size is the same ahead of each piece and behind the last.
func TestScriptOfAllShort(t *testing.T) {
	eachList([]string{"", "a", "bcd"}, 5, func(pieces []string) {
		for fail := -2; fail <= len(pieces)+2; fail++ {
			s := New(pieces, fail)
			tells, end := want(pieces, fail)
			size := len(strings.Join(tells, ""))
			for i := range tells {
				if got := s.Size(); got != size {
					t.Fatalf("New(%q, %d).Size() = %d behind %d pieces, want %d", pieces, fail, got, i, size)
				}
				wantTold(t, s, tells[i])
			}
			for range 3 {
				wantNext(t, s, nil, end)
				if got := s.Size(); got != size {
					t.Fatalf("New(%q, %d).Size() = %d at the end, want %d", pieces, fail, got, size)
				}
			}
		}
	})
}

func wantTold(t *testing.T, s Source, piece string) {
	t.Helper()
	if got := next(s); got != (told{piece, true, api.OK}) {
		t.Fatalf("Next: %.40v, want the piece %.40q", got, piece)
	}
}

// P4.1: a fail that is far from all places never comes.
func TestFailFarAway(t *testing.T) {
	for _, fail := range []int{math.MinInt, math.MinInt + 1, -3, -2, -1, 3, 4, 1 << 32, 1<<32 + 1, math.MaxInt - 1, math.MaxInt} {
		s := New([]string{"a", "b"}, fail)
		if got := s.Size(); got != 2 {
			t.Errorf("fail %d: Size() = %d, want 2", fail, got)
		}
		wantNext(t, s, []string{"a", "b"}, api.OK)
	}
}

// P4.1: many pieces, and a long one of all bytes.
func TestScriptOfMany(t *testing.T) {
	many := make([]string, 1<<17)
	for i := range many {
		many[i] = string([]byte{byte(i)})[:i%3/2]
	}
	for _, fail := range []int{-1, 1 << 16, 1 << 17} {
		s := New(many, fail)
		tells, end := want(many, fail)
		if got := s.Size(); got != len(tells) {
			t.Errorf("fail %d: Size() = %d, want %d", fail, got, len(tells))
		}
		wantNext(t, s, tells, end)
	}
	var long strings.Builder
	for i := range 1 << 19 {
		long.WriteByte(byte(i))
	}
	s := New([]string{long.String(), "x"}, 2)
	if got := s.Size(); got != 1<<19+1 {
		t.Errorf("Size() = %d, want %d", got, 1<<19+1)
	}
	wantNext(t, s, []string{long.String(), "x"}, api.ErrRead)
}

// P4.1: a nil script is at its end, and has the size 0.
func TestNilScript(t *testing.T) {
	var s *Script
	wantNext(t, s, nil, api.OK)
	if got := s.Size(); got != 0 {
		t.Errorf("Size() = %d of a nil script, want 0", got)
	}
}

// P4.2: a text is told once, as one piece, and is empty from then on.
func TestPlain(t *testing.T) {
	for _, text := range []string{"a", "x y", " ", "\n\n", "\x00", "\xff\xc3", "é€", strings.Repeat("long ", 1<<17)} {
		p := &Plain{Text: text}
		wantTold(t, p, text)
		if p.Text != "" {
			t.Errorf("the text is %.40q when it was told", p.Text)
		}
		wantNext(t, p, nil, api.OK)
		if p.Text != "" {
			t.Errorf("the text is %.40q at the end", p.Text)
		}
	}
}

// P4.2: one without a text is at its end, and so is a nil one.
func TestPlainOfNothing(t *testing.T) {
	wantNext(t, &Plain{}, nil, api.OK)
	wantNext(t, new(Plain), nil, api.OK)
	var p *Plain
	wantNext(t, p, nil, api.OK)
}

// sizedOnly tells a size and no pieces.
type sizedOnly int

func (n sizedOnly) Size() int { return int(n) }

// otherSize has a Size of another kind, so that it isn't Sized.
type otherSize struct{}

func (otherSize) Size() int64 { return 5 }

// otherNext has a Next of another kind, so that it is no Source.
type otherNext struct{}

func (otherNext) Next() ([]byte, bool, error) { return []byte("a"), true, nil }

// embeds is a source, and sized, by what lies in it.
type embeds struct{ *Script }

// list tells what it holds, one by one; at its end again the last.
type list struct {
	tells []told
	calls int
}

func (l *list) Next() ([]byte, bool, api.Errno) {
	x := l.tells[min(l.calls, len(l.tells)-1)]
	l.calls++
	return []byte(x.piece), x.more, x.e
}

// reuser tells each of its pieces in the same memory.
type reuser struct {
	memory []byte
	pieces []string
}

func (r *reuser) Next() ([]byte, bool, api.Errno) {
	clear(r.memory)
	if len(r.pieces) == 0 {
		return nil, false, api.OK
	}
	n := copy(r.memory, r.pieces[0])
	r.pieces = r.pieces[1:]
	return r.memory[:n], true, api.OK
}

// value is a source that is no pointer.
type value struct{}

func (value) Next() ([]byte, bool, api.Errno) { return nil, false, api.ErrHead }

// noSources are things that are no Source, though some look like it.
func noSources() []any {
	return []any{nil, 5, "text", []byte("text"), api.ErrRead, true, 1.5, []string{"a"}, Script{}, Plain{}, Plain{Text: "a"}, *New([]string{"a"}, -1), sizedOnly(3), otherSize{}, otherNext{}, func() {}, struct{}{}, map[string]int{}, (*int)(nil), [](*Plain){{Text: "a"}}, new(*Plain)}
}

// P4.3: Size asks whatever is sized, and nothing else.
func TestSize(t *testing.T) {
	used := New([]string{"ab", "c"}, -1)
	used.Next()
	for _, x := range []struct {
		of   any
		want int
	}{
		{New(nil, -1), 0},
		{New([]string{"ab", "", "c"}, -1), 3},
		{New([]string{"ab", "", "c"}, 2), 2},
		{used, 3},
		{(*Script)(nil), 0},
		{sizedOnly(7), 7},
		{sizedOnly(0), 0},
		{sizedOnly(-1), -1},
		{sizedOnly(math.MaxInt), math.MaxInt},
		{sizedOnly(math.MinInt), math.MinInt},
		{embeds{New([]string{"abcd"}, -1)}, 4},
	} {
		if got, ok := Size(x.of); got != x.want || !ok {
			t.Errorf("Size(%T) = %d, %v, want %d, true", x.of, got, ok, x.want)
		}
	}
}

// P4.2, P4.3: a Plain isn't sized, nor is anything without a Size of the same kind.
func TestSizeOfOthers(t *testing.T) {
	for _, x := range []any{nil, 5, "text", api.OK, Script{}, *New([]string{"a"}, -1), &Plain{}, &Plain{Text: "abc"}, (*Plain)(nil), Plain{Text: "abc"}, otherSize{}, &list{}, value{}, new(any), []Sized{sizedOnly(1)}, Sized(nil)} {
		if got, ok := Size(x); got != 0 || ok {
			t.Errorf("Size(%T) = %d, %v, want 0, false", x, got, ok)
		}
	}
}

// P4.3: Size leaves a source where it is.
func TestSizeTakesNothing(t *testing.T) {
	s := New([]string{"a", "b"}, 2)
	p := &Plain{Text: "a"}
	for range 3 {
		Size(s)
		Size(p)
	}
	wantNext(t, s, []string{"a", "b"}, api.ErrRead)
	wantNext(t, p, []string{"a"}, api.OK)
}

// P4.3: Must tells the same thing as a source, and leaves it where it is.
func TestMust(t *testing.T) {
	script, plain, own := New([]string{"a", "b"}, 2), &Plain{Text: "x"}, &list{tells: []told{{"", false, api.ErrForm}}}
	if got := Must(script); got != Source(script) {
		t.Errorf("Must of a script is %T, another one", got)
	}
	if got := Must(plain); got != Source(plain) {
		t.Errorf("Must of a Plain is %T, another one", got)
	}
	if got := Must(own); got != Source(own) || own.calls != 0 {
		t.Errorf("Must of a source is %T, another one, or was asked %d times", got, own.calls)
	}
	wantNext(t, Must(script), []string{"a", "b"}, api.ErrRead)
	wantNext(t, script, nil, api.ErrRead)
	wantNext(t, Must(plain), []string{"x"}, api.OK)
	wantNext(t, Must(own), nil, api.ErrForm)
	wantNext(t, Must(value{}), nil, api.ErrHead)
	wantNext(t, Must(embeds{New([]string{"a"}, -1)}), []string{"a"}, api.OK)
}

// P4.3: a nil script and a nil Plain are sources, so Must tells them.
func TestMustOfNilPointers(t *testing.T) {
	wantNext(t, Must((*Script)(nil)), nil, api.OK)
	wantNext(t, Must((*Plain)(nil)), nil, api.OK)
}

// P4.3: of what is no source, Must panics.
func TestMustPanics(t *testing.T) {
	for _, x := range noSources() {
		if !panics(func() { Must(x) }) {
			t.Errorf("Must(%T) didn't panic", x)
		}
	}
}

// P4.3: all pieces of a source are told as one text, from where it is on; then it is at its end.
func TestAll(t *testing.T) {
	used := New([]string{"ab", "c", "d"}, -1)
	used.Next()
	for _, x := range []struct {
		of   Source
		want string
	}{
		{New(nil, -1), ""},
		{New([]string{"", ""}, -1), ""},
		{New([]string{"lo", "", "w lo", "w"}, -1), "low low"},
		{New([]string{"\xc3", "\xa9", "\x00", "\n"}, 9), "é\x00\n"},
		{used, "cd"},
		{(*Script)(nil), ""},
		{&Plain{}, ""},
		{&Plain{Text: "x y"}, "x y"},
		{(*Plain)(nil), ""},
		{embeds{New([]string{"a", "b"}, -1)}, "ab"},
		{&list{tells: []told{{"", true, api.OK}, {"a", true, api.OK}, {"", true, api.OK}, {"b", true, api.OK}, {"", false, api.OK}}}, "ab"},
	} {
		if got, e := All(x.of); got != x.want || e != api.OK {
			t.Errorf("All(%T) = %q, %d, want %q, OK", x.of, got, e, x.want)
		}
		wantNext(t, x.of, nil, api.OK)
		if got, e := All(x.of); got != "" || e != api.OK {
			t.Errorf("All(%T) = %q, %d the second time, want none, OK", x.of, got, e)
		}
	}
}

// P4.3: of all short lists of pieces, with all fails, All tells the text, or no text and the error.
func TestAllOfAllShort(t *testing.T) {
	eachList([]string{"", "a", "bcd"}, 5, func(pieces []string) {
		for fail := -2; fail <= len(pieces)+2; fail++ {
			tells, end := want(pieces, fail)
			text := ""
			if end == api.OK {
				text = strings.Join(tells, "")
			}
			s := New(pieces, fail)
			if got, e := All(s); got != text || e != end {
				t.Fatalf("All(New(%q, %d)) = %q, %d, want %q, %d", pieces, fail, got, e, text, end)
			}
			wantNext(t, s, nil, end)
		}
	})
}

// P4.3: just the error is told that the source tells, whichever it is, and it is asked no more behind it.
func TestAllTellsTheError(t *testing.T) {
	for _, e := range []api.Errno{api.ErrArg, api.ErrBadParam, api.ErrRead, api.ErrWordTooLong, api.ErrOverflow, api.ErrForm, api.ErrSide, api.ErrRepeat, api.ErrHead, api.ErrWord, api.ErrKind, -1, 99, math.MaxInt, math.MinInt} {
		for _, ahead := range [][]told{nil, {{"a", true, api.OK}}, {{"a", true, api.OK}, {"b", true, api.OK}}} {
			s := &list{tells: append(ahead, told{"", false, e})}
			if got, gotE := All(s); got != "" || gotE != e {
				t.Errorf("All = %q, %d, want none, %d", got, gotE, e)
			}
			if s.calls != len(ahead)+1 {
				t.Errorf("the source was asked %d times, want %d", s.calls, len(ahead)+1)
			}
		}
	}
	if got, e := All(value{}); got != "" || e != api.ErrHead {
		t.Errorf("All = %q, %d, want none, ErrHead", got, e)
	}
}

// P4.3: what is no source is ErrKind, without a text.
func TestAllOfNoSource(t *testing.T) {
	for _, x := range noSources() {
		if got, e := All(x); got != "" || e != api.ErrKind {
			t.Errorf("All(%T) = %q, %d, want none, ErrKind", x, got, e)
		}
	}
}

// P4.3, R4: a source that tells all its pieces in the same memory is read as what it told each time.
func TestAllOfSharedMemory(t *testing.T) {
	r := &reuser{memory: make([]byte, 4), pieces: []string{"abcd", "ef", "", "g"}}
	got, e := All(r)
	copy(r.memory, "????")
	if got != "abcdefg" || e != api.OK {
		t.Errorf("All = %q, %d, want abcdefg, OK", got, e)
	}
}

// P4.3: a long text in pieces of one byte is joined.
func TestAllOfMany(t *testing.T) {
	text := strings.Repeat("low er\n\xff", 1<<15)
	if got, e := All(New(strings.Split(text, ""), -1)); got != text || e != api.OK {
		t.Errorf("%d bytes, %d, want %d, OK", len(got), e, len(text))
	}
}

// R4: New doesn't keep the list that it is given, doesn't change it, and leaves alone what lies behind its length.
func TestPiecesAreLeftAlone(t *testing.T) {
	memory := []string{"a", "", "b", "c", "d"}
	s := New(memory[:3], -1)
	end := New(memory[:3], 3)
	if got := strings.Join(memory, ","); got != "a,,b,c,d" {
		t.Errorf("the memory is %q behind New", got)
	}
	for i := range memory {
		memory[i] = "?"
	}
	wantNext(t, s, []string{"a", "b"}, api.OK)
	wantNext(t, end, []string{"a", "b"}, api.ErrRead)
	if got := strings.Join(memory, ","); got != "?,?,?,?,?" {
		t.Errorf("the memory is %q behind Next", got)
	}
}

// R4: a piece that was told may be written over, and nothing else changes by it.
func TestToldPiecesAreFree(t *testing.T) {
	same := strings.Repeat("ab", 40)
	pieces := []string{same, same, same}
	s, other := New(pieces, -1), New(pieces, -1)
	var kept [][]byte
	for range pieces {
		piece, more, e := s.Next()
		if string(piece) != same || !more || e != api.OK {
			t.Fatalf("%.40q, %v, %d", piece, more, e)
		}
		piece = append(piece, "!!!!"...)
		for i := range piece {
			piece[i] = byte('0' + len(kept))
		}
		kept = append(kept, piece)
	}
	for i, piece := range kept {
		if string(piece) != strings.Repeat(string(rune('0'+i)), len(same)+4) {
			t.Errorf("the piece %d is %.40q", i, piece)
		}
	}
	wantNext(t, other, pieces, api.OK)
	text := same
	p := &Plain{Text: text}
	piece, _, _ := p.Next()
	clear(piece[:cap(piece)])
	if text != same || p.Text != "" || pieces[0] != same {
		t.Error("a text changed when a piece was written over")
	}
}

// R6: sources don't know of each other, and the same pieces are told the same each time.
func TestSourcesApart(t *testing.T) {
	pieces := []string{"a", "b"}
	for range 3 {
		r, s := New(pieces, 1), New(pieces, -1)
		wantNext(t, r, []string{"a"}, api.ErrRead)
		wantTold(t, s, "a")
		wantNext(t, New(pieces, 2), pieces, api.ErrRead)
		wantNext(t, s, []string{"b"}, api.OK)
	}
}
