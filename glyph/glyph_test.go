package glyph

import (
	"math"
	"strings"
	"testing"
	"unicode/utf8"
)

// wantSigns works the signs out by the document's own words: those of their number, and the others from 256 on in their order.
func wantSigns() [256]rune {
	var signs [256]rune
	next := rune(256)
	for c := range 256 {
		if 33 <= c && c <= 126 || 161 <= c && c <= 172 || 174 <= c && c <= 255 {
			signs[c] = rune(c)
		} else {
			signs[c] = next
			next++
		}
	}
	return signs
}

func everyByte() string {
	var b strings.Builder
	for c := range 256 {
		b.WriteByte(byte(c))
	}
	return b.String()
}

// P2.1: the sign of each of the 256 bytes, and the byte of each sign.
func TestEachByte(t *testing.T) {
	for c, want := range wantSigns() {
		if got := Sign(byte(c)); got != want {
			t.Errorf("Sign(%d) = %d, want %d", c, got, want)
		}
		if got, ok := Byte(want); got != byte(c) || !ok {
			t.Errorf("Byte(%d) = %d, %v, want %d, true", want, got, ok, c)
		}
	}
}

// P2.1: the signs at the edges of the runs, written out.
func TestSignAtEdges(t *testing.T) {
	for _, x := range []struct {
		c    byte
		want rune
	}{
		{0, 256}, {1, 257}, {'\t', 265}, {'\n', 266}, {'\r', 269}, {31, 287}, {' ', 288},
		{'!', 33}, {'a', 97}, {'~', 126},
		{127, 289}, {128, 290}, {159, 321}, {160, 322},
		{161, 161}, {172, 172}, {173, 323}, {174, 174}, {255, 255},
	} {
		if got := Sign(x.c); got != x.want {
			t.Errorf("Sign(%d) = %d, want %d", x.c, got, x.want)
		}
		if got, ok := Byte(x.want); got != x.c || !ok {
			t.Errorf("Byte(%d) = %d, %v, want %d, true", x.want, got, ok, x.c)
		}
	}
}

// P2.3: no two bytes have one sign.
func TestSignsDiffer(t *testing.T) {
	byteOf := map[rune]int{}
	for c := range 256 {
		sign := Sign(byte(c))
		if other, ok := byteOf[sign]; ok {
			t.Errorf("the bytes %d and %d have both the sign %d", other, c, sign)
		}
		byteOf[sign] = c
	}
}

// P2.1: no other rune is a sign, and none that isn't a rune of any text.
func TestByteRefuses(t *testing.T) {
	isSign := map[rune]bool{}
	for _, sign := range wantSigns() {
		isSign[sign] = true
	}
	refuse := func(r rune) {
		if got, ok := Byte(r); got != 0 || ok {
			t.Errorf("Byte(%d) = %d, %v, want 0, false", r, got, ok)
		}
	}
	for r := rune(-0x1000); r <= 0x110000; r++ {
		if !isSign[r] {
			refuse(r)
		}
	}
	for _, r := range []rune{math.MinInt32, math.MinInt32 + 'a', math.MinInt32 + 256, math.MinInt32 + 323, math.MaxInt32, 0x7fffff00 + 'a'} {
		refuse(r)
	}
}

// P2.1: Show tells the signs of a text's bytes, and Read the text again.
func TestShowAndRead(t *testing.T) {
	for _, x := range []struct{ text, signs string }{
		{"", ""},
		{" ", "Ġ"},
		{"low", "low"},
		{"a b\xff", "aĠbÿ"},
		{"\x00\n\t\r", "ĀĊĉč"},
		{"\x7f\xa0\xa1\xac\xad\xae", "ġł¡¬Ń®"},
		{"é", "Ã©"},
		{"Ġ", "Äł"},
		{"\xff\xfe\x80", "ÿþĢ"},
		{"\xc4", "Ä"},
		{"\ufffd", "ï¿½"},
	} {
		if got := Show(x.text); got != x.signs {
			t.Errorf("Show(%q) = %q, want %q", x.text, got, x.signs)
		}
		if got, ok := Read(x.signs); got != x.text || !ok {
			t.Errorf("Read(%q) = %q, %v, want %q, true", x.signs, got, ok, x.text)
		}
	}
}

// P2.1: what is no text's signs is empty and false, wherever in it the fault is.
func TestReadRefuses(t *testing.T) {
	for _, s := range []string{
		" ", "a b", " a", "a ", "\n", "a\n", "\x00", "a\x00", "\x7f", "\u0080", "\u00a0", "\u00ad", "a\u00adb",
		"ń", "ań", "ńa", "€", "a€", "∅", "日本", "😀", "\ufffd", "a\ufffd", "\ufeffa", "\U0010ffff",
		"\xff", "a\xff", "\xffa", "a\xffb", "\xff\xff", "\x80", "\xa1", "a\xc4", "\xc4", "\xc4a", "\xe2\x82", "Ġ\xc4",
		"\xc1\xa1", "\xc0\x80", "\xe0\x81\xa1", "\xe0\x84\xa0", "\xed\xa0\x80", "\xf4\x90\x80\x80",
	} {
		if got, ok := Read(s); got != "" || ok {
			t.Errorf("Read(%q) = %q, %v, want empty, false", s, got, ok)
		}
	}
}

// P2.1: of all texts of one and two bytes, just those that some text is shown as are read, and they are shown again as they were.
func TestReadAllShort(t *testing.T) {
	shown := map[string]string{}
	signs := wantSigns()
	for a := range 256 {
		one := string(signs[a])
		shown[one] = string([]byte{byte(a)})
		for b := range 256 {
			shown[one+string(signs[b])] = string([]byte{byte(a), byte(b)})
		}
	}
	check := func(s string) {
		want, wantOK := shown[s]
		if got, ok := Read(s); got != want || ok != wantOK {
			t.Errorf("Read(%q) = %q, %v, want %q, %v", s, got, ok, want, wantOK)
		} else if ok && Show(got) != s {
			t.Errorf("Read(%q) = %q, which is shown as %q", s, got, Show(got))
		}
	}
	for a := range 256 {
		check(string([]byte{byte(a)}))
		for b := range 256 {
			check(string([]byte{byte(a), byte(b)}))
		}
	}
}

// P2.1: long texts come back, and a fault at any place of their signs is found.
func TestThereAndBack(t *testing.T) {
	text := everyByte()
	signs := Show(text)
	if !utf8.ValidString(signs) || Width(signs) != len(text) {
		t.Fatalf("%q: %d signs of %d bytes", signs, Width(signs), len(text))
	}
	if got, ok := Read(signs); got != text || !ok {
		t.Fatalf("Read(Show) = %q, %v", got, ok)
	}
	for i := range signs {
		for _, fault := range []string{" ", "\xff", "ń"} {
			if got, ok := Read(signs[:i] + fault + signs[i:]); got != "" || ok {
				t.Errorf("the fault %q at the place %d: %q, %v", fault, i, got, ok)
			}
		}
	}
	long := strings.Repeat(text, 4096)
	if got, ok := Read(Show(long)); got != long || !ok {
		t.Errorf("%d bytes don't come back", len(long))
	}
}

// P2.2: Width counts runes, and each byte that isn't UTF-8 as one.
func TestWidth(t *testing.T) {
	for _, x := range []struct {
		text string
		want int
	}{
		{"", 0},
		{"a", 1},
		{"low er", 6},
		{"\x00\n", 2},
		{"é", 1},
		{"e\u0301", 2},
		{"aĠbÿ", 4},
		{"日本", 2},
		{"😀", 1},
		{"\ufffd", 1},
		{"\xff", 1},
		{"a\xff\xffé", 4},
		{"\xc4", 1},
		{"\xe2\x82", 2},
		{"\xe2\x82a", 3},
		{"\xc0\x80", 2},
		{"\xed\xa0\x80", 3},
		{"\xf4\x90\x80\x80", 4},
		{everyByte(), 256},
		{strings.Repeat("é\xff", 1<<18), 1 << 19},
	} {
		if got := Width(x.text); got != x.want {
			t.Errorf("Width(%.40q) = %d, want %d", x.text, got, x.want)
		}
	}
}
