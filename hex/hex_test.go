package hex

import (
	"fmt"
	"math"
	"strings"
	"testing"
)

func everyByte() string {
	var b strings.Builder
	for c := range 256 {
		b.WriteByte(byte(c))
	}
	return b.String()
}

// P1.1: Put tells two digits for each byte, the half above first.
func TestPut(t *testing.T) {
	for _, x := range []struct{ text, want string }{
		{"", ""},
		{"a/\xff", "612fff"},
		{"low", "6c6f77"},
		{"\x00", "00"},
		{"\x0f\xf0", "0ff0"},
		{"\x12\x21", "1221"},
		{"é", "c3a9"},
		{"\xff\xfe\x80", "fffe80"},
		{"\n\r\t ", "0a0d0920"},
	} {
		if got := Put(x.text); got != x.want {
			t.Errorf("Put(%q) = %q, want %q", x.text, got, x.want)
		}
	}
}

// P1.1: each of the 256 bytes has its own digits, and they are read as that byte.
func TestEachByte(t *testing.T) {
	for c := range 256 {
		text, want := string([]byte{byte(c)}), fmt.Sprintf("%02x", c)
		if got := Put(text); got != want {
			t.Errorf("Put(%q) = %q, want %q", text, got, want)
		}
		if got, ok := Take(want); got != text || !ok {
			t.Errorf("Take(%q) = %q, %v, want %q, true", want, got, ok, text)
		}
	}
}

// P1.1: Take tells the text whose digits it is handed.
func TestTake(t *testing.T) {
	for _, x := range []struct{ digits, want string }{
		{"", ""},
		{"612fff", "a/\xff"},
		{"6c6f77", "low"},
		{"00", "\x00"},
		{"0ff0", "\x0f\xf0"},
		{"c3a9", "é"},
		{"c3", "\xc3"},
	} {
		if got, ok := Take(x.digits); got != x.want || !ok {
			t.Errorf("Take(%q) = %q, %v, want %q, true", x.digits, got, ok, x.want)
		}
	}
}

// P1.1: what is no text's digits is empty and false, wherever in it the fault is.
func TestTakeRefuses(t *testing.T) {
	for _, h := range []string{
		"6", "616", "00000",
		"6A", "A6", "FF", "fF", "61FF",
		"0x", "0x61", "6g", "g6", "/0", "0/", ":0", "0:", "`0", "0`", "@0", "0@",
		" 61", "61 ", "6 1", "61\n", "\n", "  ", "-1", "+1", "6_1",
		"\x006", "6\x00", "61\x00\x00",
		"é", "é1", "1é", "éé", "61é", "１１", "ａａ", "٣٣",
		"\xff", "\xff\xff", "6\xff", "\xff6", "61\xff", "61\xff\xff", "\xc3", "6\xc3", "\xe2\x82", "\ufffd\ufffd",
	} {
		if got, ok := Take(h); got != "" || ok {
			t.Errorf("Take(%q) = %q, %v, want empty, false", h, got, ok)
		}
	}
}

// P1.1: runes whose lowest byte is that of a digit are no digits.
func TestTakeRefusesWideRunes(t *testing.T) {
	for _, d := range digits {
		for _, above := range []rune{0x100, 0x200, 0x3000, 0x10000, 0x100000} {
			wide := string(above + d)
			for _, h := range []string{wide, wide + wide, "0" + wide, wide + "0"} {
				if got, ok := Take(h); got != "" || ok {
					t.Errorf("Take(%q) = %q, %v, want empty, false", h, got, ok)
				}
			}
		}
	}
}

// P1.1: of all texts of one and two bytes, just those of two digits are taken, and they are written again as they were.
func TestTakeAllShort(t *testing.T) {
	isDigit := func(c int) bool { return strings.IndexByte("0123456789abcdef", byte(c)) >= 0 }
	for a := range 256 {
		one := string([]byte{byte(a)})
		if got, ok := Take(one); got != "" || ok {
			t.Errorf("Take(%q) = %q, %v, want empty, false", one, got, ok)
		}
		for b := range 256 {
			h := string([]byte{byte(a), byte(b)})
			got, ok := Take(h)
			if ok != (isDigit(a) && isDigit(b)) {
				t.Errorf("Take(%q): %v", h, ok)
			}
			if ok && (len(got) != 1 || Put(got) != h) {
				t.Errorf("Take(%q) = %q, which has the digits %q", h, got, Put(got))
			}
			if !ok && got != "" {
				t.Errorf("Take(%q) = %q beside false", h, got)
			}
		}
	}
}

// P1.1: long texts come back, and a fault at any place of their digits is found.
func TestThereAndBack(t *testing.T) {
	text := everyByte()
	h := Put(text)
	if len(h) != 2*len(text) {
		t.Fatalf("%d digits of %d bytes", len(h), len(text))
	}
	if got, ok := Take(h); got != text || !ok {
		t.Fatalf("Take(Put) = %q, %v", got, ok)
	}
	for i := range len(h) {
		if got, ok := Take(h[:i] + "G" + h[i+1:]); got != "" || ok {
			t.Errorf("a fault at the place %d: %q, %v", i, got, ok)
		}
		if got, ok := Take(h[:i] + h[i+1:]); got != "" || ok {
			t.Errorf("a digit less at the place %d: %q, %v", i, got, ok)
		}
	}
	long := strings.Repeat(text, 4096)
	if got, ok := Take(Put(long)); got != long || !ok {
		t.Errorf("%d bytes don't come back", len(long))
	}
}

// P1.1: Digit tells the values of the sixteen digits.
func TestDigit(t *testing.T) {
	for want, c := range "0123456789abcdef" {
		if got, ok := Digit(c); got != want || !ok {
			t.Errorf("Digit(%q) = %d, %v, want %d, true", c, got, ok, want)
		}
	}
}

// P1.1: no other rune is a digit, and none that isn't a rune of any text.
func TestDigitRefuses(t *testing.T) {
	refuse := func(c rune) {
		if got, ok := Digit(c); got != 0 || ok {
			t.Errorf("Digit(%d) = %d, %v, want 0, false", c, got, ok)
		}
	}
	for c := rune(-0x1000); c <= 0x110000; c++ {
		if c < 0 || c > 127 || !strings.ContainsRune("0123456789abcdef", c) {
			refuse(c)
		}
	}
	for _, c := range []rune{math.MinInt32, math.MinInt32 + '0', math.MaxInt32, 0x7fffff00 + 'a'} {
		refuse(c)
	}
}
