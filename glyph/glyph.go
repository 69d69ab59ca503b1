// Package glyph is layer 1: see shared/doc/01-glyph.md.
package glyph

import (
	"strings"
	"unicode/utf8"
)

// Check is where bytes are no UTF-8; below 0: nowhere.
func Check(s string) int {
	for i, r := range s {
		if broken(s[i:], r) {
			return i
		}
	}
	return -1
}

// Runes is how many runes a text has; a byte that is of none counts as one.
func Runes(s string) int {
	n := 0
	for range s {
		n++
	}
	return n
}

// Less says whether a text stands ahead of another one, byte by byte.
func Less(a, b string) bool {
	return a < b
}

// broken says whether the range that told r of what s begins with met a byte
// that is of no rune. The range tells that by U+FFFD, which is a rune as well,
// so the bytes have to be looked at.
func broken(s string, r rune) bool {
	return r == utf8.RuneError && !strings.HasPrefix(s, string(utf8.RuneError))
}
