package glyph

import "strings"

const sixteen = "0123456789abcdef"

// Quote is a text between quotes, as short as may be.
func Quote(s string) string {
	var out strings.Builder
	out.WriteByte('"')
	// What needs no escape is copied as bytes, not as runes: a byte that is of
	// no rune has to stay as it is.
	from := 0
	for i, r := range s {
		if e := escapeOf(r); e != "" {
			out.WriteString(s[from:i])
			out.WriteString(e)
			from = i + 1
		}
	}
	out.WriteString(s[from:])
	out.WriteByte('"')
	return out.String()
}

// escapeOf is what stands in a string in place of a rune; nothing, if the rune
// stands there itself. Each rune that has an escape is of one byte.
func escapeOf(r rune) string {
	switch r {
	case '"':
		return `\"`
	case '\\':
		return `\\`
	case '\b':
		return `\b`
	case '\t':
		return `\t`
	case '\n':
		return `\n`
	case '\f':
		return `\f`
	case '\r':
		return `\r`
	}
	if r >= ' ' {
		return ""
	}
	high, low := r/16, r%16
	return `\u00` + sixteen[high:high+1] + sixteen[low:low+1]
}
