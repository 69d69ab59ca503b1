package glyph

import "strings"

const (
	ofShort = 2 // the bytes of an escape of one sign
	ofLong  = 6 // the bytes of an escape of four digits
)

// Unquote is the text that a row of bytes begins with, and how many bytes it
// took; 0: it begins with none.
func Unquote(s string) (string, int) {
	if !strings.HasPrefix(s, `"`) {
		return "", 0
	}
	var text strings.Builder
	// An escape is read whole at its first byte: what lies ahead of next was
	// read, and is passed over.
	next := 1
	for i, r := range s {
		if i < next {
			continue
		}
		if r == '"' {
			return text.String(), i + 1
		}
		told, n := piece(s[i:], r)
		if n == 0 {
			return "", 0
		}
		text.WriteRune(told)
		next = i + n
	}
	return "", 0
}

// piece is the rune that the piece at the front of s tells, of which r is the
// first rune, and up to where it was read; 0: there is no piece. (Of a rune
// that stands for itself one byte is enough: the range goes on by whole runes.)
func piece(s string, r rune) (rune, int) {
	switch {
	case r == '\\':
		return escape(s)
	case r < ' ' || broken(s, r):
		return 0, 0
	}
	return r, 1
}

// escape is the rune that the escape at the front of s tells, and how many
// bytes it has; 0: there is none. s begins with a backslash.
func escape(s string) (rune, int) {
	if len(s) < ofShort {
		return 0, 0
	}
	switch sign := rune(s[1]); sign {
	case '"', '\\', '/':
		return sign, ofShort
	case 'b':
		return '\b', ofShort
	case 'f':
		return '\f', ofShort
	case 'n':
		return '\n', ofShort
	case 'r':
		return '\r', ofShort
	case 't':
		return '\t', ofShort
	case 'u':
		return long(s)
	}
	return 0, 0
}

// long is the rune that one escape of four digits, or two that are its halves,
// tell at the front of s, and how many bytes they have; 0: they tell none.
func long(s string) (rune, int) {
	first, ok := four(s)
	if !ok || isSecond(first) {
		return 0, 0
	}
	if !isFirst(first) {
		return first, ofLong
	}
	second, ok := four(s[ofLong:])
	if !ok || !isSecond(second) {
		return 0, 0
	}
	return 0x10000 + (first-0xd800)*0x400 + (second - 0xdc00), 2 * ofLong
}

func isFirst(n rune) bool { return n >= 0xd800 && n <= 0xdbff }

func isSecond(n rune) bool { return n >= 0xdc00 && n <= 0xdfff }

// four is the number of the escape of four digits that s begins with; false:
// it begins with none.
func four(s string) (rune, bool) {
	if len(s) < ofLong || !strings.HasPrefix(s, `\u`) {
		return 0, false
	}
	n := rune(0)
	for _, r := range s[2:ofLong] {
		d, ok := digit(r)
		if !ok {
			return 0, false
		}
		n = n*16 + d
	}
	return n, true
}

func digit(r rune) (rune, bool) {
	switch {
	case r >= '0' && r <= '9':
		return r - '0', true
	case r >= 'a' && r <= 'f':
		return r - 'a' + 10, true
	case r >= 'A' && r <= 'F':
		return r - 'A' + 10, true
	}
	return 0, false
}
