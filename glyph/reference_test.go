package glyph_test

// What the chapter says, written down a second time by another way: by the
// table of bytes of RFC 3629, without the language's own decoder.

// runeBytes is how many bytes the rune at the front of s has; 0: none begins.
func runeBytes(s string) int {
	table := []struct{ low, high, low2, high2, many byte }{
		{0x00, 0x7f, 0x00, 0x00, 1},
		{0xc2, 0xdf, 0x80, 0xbf, 2},
		{0xe0, 0xe0, 0xa0, 0xbf, 3},
		{0xe1, 0xec, 0x80, 0xbf, 3},
		{0xed, 0xed, 0x80, 0x9f, 3},
		{0xee, 0xef, 0x80, 0xbf, 3},
		{0xf0, 0xf0, 0x90, 0xbf, 4},
		{0xf1, 0xf3, 0x80, 0xbf, 4},
		{0xf4, 0xf4, 0x80, 0x8f, 4},
	}
	for _, row := range table {
		if len(s) < int(row.many) || s[0] < row.low || s[0] > row.high {
			continue
		}
		ok := true
		for k := 1; k < int(row.many); k++ {
			low, high := byte(0x80), byte(0xbf)
			if k == 1 {
				low, high = row.low2, row.high2
			}
			ok = ok && s[k] >= low && s[k] <= high
		}
		if ok {
			return int(row.many)
		}
	}
	return 0
}

func refCheck(s string) int {
	for i := 0; i < len(s); {
		n := runeBytes(s[i:])
		if n == 0 {
			return i
		}
		i += n
	}
	return -1
}

func refRunes(s string) int {
	many := 0
	for i := 0; i < len(s); many++ {
		i += max(1, runeBytes(s[i:]))
	}
	return many
}

// encode is the bytes of a number by RFC 3629's bits, as few as may be (of d800
// to dfff and of numbers above 10ffff, too, which are no runes).
func encode(n int) string {
	switch {
	case n < 0x80:
		return string([]byte{byte(n)})
	case n < 0x800:
		return string([]byte{0xc0 | byte(n>>6), 0x80 | byte(n&63)})
	case n < 0x10000:
		return string([]byte{0xe0 | byte(n>>12), 0x80 | byte(n>>6&63), 0x80 | byte(n&63)})
	}
	return string([]byte{0xf0 | byte(n>>18), 0x80 | byte(n>>12&63), 0x80 | byte(n>>6&63), 0x80 | byte(n&63)})
}

func isHalf(n int) bool { return n >= 0xd800 && n <= 0xdfff }

// eachRune calls do with each number that is a rune's, and its bytes.
func eachRune(do func(n int, s string)) {
	for n := 0; n <= 0x10ffff; n++ {
		if !isHalf(n) {
			do(n, encode(n))
		}
	}
}

// eachText calls do with each text of up to most of the given bytes.
func eachText(signs string, most int, do func(s string)) {
	var grow func(s string)
	grow = func(s string) {
		do(s)
		if len(s) == most {
			return
		}
		for i := 0; i < len(signs); i++ {
			grow(s + signs[i:i+1])
		}
	}
	grow("")
}

// edges are bytes at the borders of RFC 3629's table.
const edges = "\x00a\x7f\x80\x8f\x90\x9f\xa0\xbf\xc0\xc1\xc2\xdf\xe0\xe1\xec\xed\xee\xef\xf0\xf1\xf3\xf4\xf5\xff"
