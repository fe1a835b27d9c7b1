// Package hex is layer 1: see shared/doc/01-hex.md.
package hex

const digits = "0123456789abcdef"

// Put tells the digits of s, two for each byte.
func Put(s string) string {
	out := make([]byte, 0, 2*len(s))
	for i := range len(s) {
		out = append(out, digits[s[i]>>4], digits[s[i]&15])
	}
	return string(out)
}

// Take tells the text whose digits h is; false: it is none's.
func Take(h string) (string, bool) {
	out := make([]byte, 0, len(h)/2)
	above, open := 0, false
	for _, c := range h {
		value, ok := Digit(c)
		if !ok {
			return "", false
		}
		if open {
			out = append(out, byte(above<<4|value))
		}
		above, open = value, !open
	}
	// A half above without its half below makes no byte.
	if open {
		return "", false
	}
	return string(out), true
}

// Digit tells the value of a digit; false: c is none. Capital letters are none, so that each text has its digits in one way alone.
func Digit(c rune) (int, bool) {
	switch {
	case '0' <= c && c <= '9':
		return int(c - '0'), true
	case 'a' <= c && c <= 'f':
		return int(c-'a') + 10, true
	}
	return 0, false
}
