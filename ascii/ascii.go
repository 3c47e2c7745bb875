// Package ascii is layer 1: signs: see shared/doc/01-ascii.md.
package ascii

import "strings"

// Blank tells whether c parts words.
func Blank(c byte) bool {
	switch c {
	case '\t', '\n', '\f', '\r', ' ':
		return true
	}
	return false
}

// Letter tells whether c is a letter, large or small.
func Letter(c byte) bool {
	return large(c) || 'a' <= c && c <= 'z'
}

// Digit is what c is worth as a digit of the base, or -1.
func Digit(c byte, base int) int {
	if n := worth(c); n < base {
		return n
	}
	return -1
}

// Lower makes letters small, byte by byte: bytes above 7f stay, whatever
// they are part of.
func Lower(s string) string {
	b := []byte(s)
	for i, c := range b {
		if large(c) {
			b[i] = c - 'A' + 'a'
		}
	}
	return string(b)
}

// Trim leaves out what is a space or below it, at both ends.
func Trim(s string) string {
	return cut(s, low)
}

// Strip leaves out the blanks at both ends.
func Strip(s string) string {
	return cut(s, Blank)
}

// Tight leaves out tabs and ends of lines, wherever they stand. The other
// blanks stay.
func Tight(s string) string {
	b := make([]byte, 0, len(s))
	for i := 0; i < len(s); i++ {
		switch s[i] {
		case '\t', '\n', '\r':
		default:
			b = append(b, s[i])
		}
	}
	return string(b)
}

// Words cuts s at its blanks.
func Words(s string) []string {
	var l []string
	from := 0
	for i := 0; i <= len(s); i++ {
		if i < len(s) && !Blank(s[i]) {
			continue
		}
		if from < i {
			l = append(l, strings.Clone(s[from:i]))
		}
		from = i + 1
	}
	return l
}

func large(c byte) bool {
	return 'A' <= c && c <= 'Z'
}

func low(c byte) bool {
	return c <= ' '
}

// worth is what c is worth as a digit of the greatest base, or -1.
func worth(c byte) int {
	switch {
	case '0' <= c && c <= '9':
		return int(c - '0')
	case 'a' <= c && c <= 'z':
		return int(c-'a') + 10
	case large(c):
		return int(c-'A') + 10
	}
	return -1
}

// cut leaves out the bytes at both ends of s that are to be dropped. It
// answers a copy, since no answer shares memory with what was handed in.
func cut(s string, drop func(byte) bool) string {
	from, to := 0, len(s)
	for from < to && drop(s[from]) {
		from++
	}
	for from < to && drop(s[to-1]) {
		to--
	}
	return strings.Clone(s[from:to])
}
