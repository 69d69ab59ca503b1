package glyph_test

import (
	"fmt"
	"strings"
	"testing"

	"heliast/glyph"
)

func TestUnquote(t *testing.T) {
	for _, c := range []struct {
		s, text string
		n       int
	}{
		{`""`, "", 2},
		{`"a"`, "a", 3},
		{`"\u00e9"x`, "\u00e9", 8},
		{`"a""b"`, "a", 3},
		{`"a" `, "a", 3},
		{"\"a\"\xff", "a", 3},
		{`"a"\`, "a", 3},
		{`"\""`, `"`, 4},
		{`"\\"`, `\`, 4},
		{`"\\""`, `\`, 4},
		{`"\/"`, "/", 4},
		{`"/"`, "/", 3},
		{`"\b\f\n\r\t"`, "\b\f\n\r\t", 12},
		{"\" \x7f\"", " \x7f", 4},
		{"\"\u00e9\u20ac\U0001f600\"", "\u00e9\u20ac\U0001f600", 11},
		{"\"\u2028\ufffd\ufeff\"", "\u2028\ufffd\ufeff", 11},
		{`"\u0000"`, "\x00", 8},
		{`"\u001f\u0022\u005c"`, "\x1f\"\\", 20},
		{`"\u00e9\u00E9\uAbCd"`, "\u00e9\u00e9\uabcd", 20},
		{`"\u00410"`, "A0", 9},
		{`"\ud7ff\ue000\uffff\ufffd"`, "\ud7ff\ue000\uffff\ufffd", 26},
		{`"\ud800\udc00"`, "\U00010000", 14},
		{`"\uD83d\uDe00!"x`, "\U0001f600!", 15},
		{`"\udbff\udfff"`, "\U0010ffff", 14},
		{`"\ud83d\ude00\ud83d\ude01"`, "\U0001f600\U0001f601", 26},
		{`"a\nb\u0063\"d"e`, "a\nbc\"d", 15},
	} {
		if text, n := glyph.Unquote(c.s); text != c.text || n != c.n {
			t.Errorf("Unquote(%q) = %q, %d, want %q, %d", c.s, text, n, c.text, c.n)
		}
	}
}

func TestUnquoteOfNone(t *testing.T) {
	for _, s := range []string{
		"", "a", `'a'`, ` "a"`, `a"b"`, `\"a"`, "\xff\"a\"",
		`"`, `"a`, `"\`, `"\"`, `"a\"`, `"\\\"`,
		`"\u`, `"\u0`, `"\u00`, `"\u004`, `"\u0041`, `"\u"`, `"\u004"`, `"\u004"0`,
		`"\ud83d\u`, `"\ud83d\ude0`, `"\ud83d\ude00`,
		`"\x41"`, `"\a"`, `"\v"`, `"\0"`, `"\'"`, `"\U0041"`, `"\B"`, `"\N"`, `"\ "`, "\"\\\n\"", "\"\\\x00\"", "\"\\\u00e9\"", "\"\\\xff\"",
		`"\u004g"`, `"\u00 1"`, `"\u+041"`, `"\u-041"`, `"\u0x41"`, `"\u0_41"`, `"\uG000"`, `"\u:000"`, `"\u/000"`, "\"\\u@000\"", "\"\\u`000\"", "\"\\u00\u00e9\"", "\"\\u00\xff1\"", "\"\\u\uff10\uff10\"",
		`"\ud800"`, `"\udbff"`, `"\udc00"`, `"\udfff"`, `"a\ud83d"`, `"\ud83da"`, `"\ud83d\n"`, `"\ud83d\\de00"`, `"\ud83dude00"`, `"\ud83d \ude00"`,
		`"\ud83d\u0041"`, `"\ud83d\ud83d"`, `"\ud83d\udbff"`, `"\ud83d\ue000"`, `"\ude00\ud83d"`, `"\ude00\ude00"`, `"\ud83d\ude0g"`, `"\ud83d\ude00\ude00"`,
		"\"\x00\"", "\"\x1f\"", "\"\n\"", "\"\t\"", "\"\r\"", "\"a\x08b\"",
		"\"\xff\"", "\"\x80\"", "\"a\xc3\"", "\"\xc3a\"", "\"\xe2\x82\"", "\"\xf0\x9f\x98\"", "\"\xc0\x80\"", "\"\xe0\x80\xa2\"", "\"\xc0\xa2\"",
		"\"\xed\xa0\x80\"", "\"\xed\xa0\xbd\xed\xb8\x80\"", "\"\xf4\x90\x80\x80\"", "\"\ufffd\xff\"", "\"\xef\xbf\"",
	} {
		if text, n := glyph.Unquote(s); text != "" || n != 0 {
			t.Errorf("Unquote(%q) = %q, %d, want nothing", s, text, n)
		}
	}
}

func TestUnquoteCutShort(t *testing.T) {
	whole := "\"a\\n\u20ac\\u00e9\\ud83d\\ude00\\\\\\\"\U0001f600\""
	if text, n := glyph.Unquote(whole); text != "a\n\u20ac\u00e9\U0001f600\\\"\U0001f600" || n != len(whole) {
		t.Fatalf("Unquote(%q) = %q, %d", whole, text, n)
	}
	for i := range len(whole) {
		if text, n := glyph.Unquote(whole[:i]); text != "" || n != 0 {
			t.Errorf("Unquote(%q) = %q, %d, want nothing", whole[:i], text, n)
		}
	}
}

func TestUnquoteOfEachByte(t *testing.T) {
	short := map[int]string{'"': `"`, '\\': `\`, '/': "/", 'b': "\b", 'f': "\f", 'n': "\n", 'r': "\r", 't': "\t"}
	for n := 0; n < 256; n++ {
		sign := string([]byte{byte(n)})
		text, took := glyph.Unquote(`"` + sign + `"`)
		switch {
		case n == '"':
			if text != "" || took != 2 {
				t.Errorf("the byte %x: %q, %d", n, text, took)
			}
		case n < 0x20 || n == '\\' || n >= 0x80:
			if text != "" || took != 0 {
				t.Errorf("the byte %x: %q, %d, want nothing", n, text, took)
			}
		case text != sign || took != 3:
			t.Errorf("the byte %x: %q, %d", n, text, took)
		}
		text, took = glyph.Unquote(`"\` + sign + `"`)
		want, there := short[n]
		if there && (text != want || took != 4) || !there && (text != "" || took != 0) {
			t.Errorf("the escape %x: %q, %d, want %q", n, text, took, want)
		}
	}
}

func TestUnquoteOfEachNumber(t *testing.T) {
	for n := 0; n <= 0xffff; n++ {
		want, long := encode(n), 8
		if isHalf(n) {
			want, long = "", 0
		}
		for _, form := range []string{`"\u%04x"`, `"\u%04X"`} {
			if text, took := glyph.Unquote(fmt.Sprintf(form, n)); text != want || took != long {
				t.Fatalf("the number %x: %q, %d, want %q, %d", n, text, took, want, long)
			}
		}
	}
}

func TestUnquoteOfHalves(t *testing.T) {
	var halves []string
	for n := 0xd800; n <= 0xdfff; n++ {
		halves = append(halves, fmt.Sprintf(`\u%04x`, n))
	}
	for a, first := range halves[:0x400] {
		for b, second := range halves[0x400:] {
			want := encode(0x10000 + 0x400*a + b)
			if text, took := glyph.Unquote(`"` + first + second + `"`); text != want || took != 14 {
				t.Fatalf("%s%s: %q, %d, want %q", first, second, text, took, want)
			}
		}
	}
	for _, first := range halves[:0x400] {
		for _, behind := range []string{"", "x", `\n`, `\u0041`, `\ud7ff`, `\ue000`, halves[0], halves[0x3ff], "\U0001f600"} {
			if text, took := glyph.Unquote(`"` + first + behind + `"`); text != "" || took != 0 {
				t.Fatalf("%s%s: %q, %d, want nothing", first, behind, text, took)
			}
		}
	}
	for _, second := range halves[0x400:] {
		for _, ahead := range []string{"", "x", `\n`, `\u0041`, halves[0x400], `\ud83d\ude00`} {
			if text, took := glyph.Unquote(`"` + ahead + second + `"`); text != "" || took != 0 {
				t.Fatalf("%s%s: %q, %d, want nothing", ahead, second, text, took)
			}
		}
	}
}

// refUnquote reads piece by piece by the chapter's words, from short lists.
func refUnquote(s string) (string, int) {
	if s == "" || s[0] != '"' {
		return "", 0
	}
	text := ""
	for i := 1; i < len(s); {
		if s[i] == '"' {
			return text, i + 1
		}
		told, n := refPiece(s[i:])
		if n == 0 {
			return "", 0
		}
		text, i = text+told, i+n
	}
	return "", 0
}

func refPiece(s string) (string, int) {
	if s[0] != '\\' {
		if n := runeBytes(s); s[0] >= 0x20 {
			return s[:n], n
		}
		return "", 0
	}
	if len(s) > 1 && s[1] != 'u' {
		if at := strings.IndexByte(`"\/bfnrt`, s[1]); at >= 0 {
			return "\"\\/\b\f\n\r\t"[at : at+1], 2
		}
		return "", 0
	}
	a, b := refFour(s), -1
	if len(s) > 6 {
		b = refFour(s[6:])
	}
	switch {
	case a < 0 || a >= 0xdc00 && a <= 0xdfff:
		return "", 0
	case !isHalf(a):
		return encode(a), 6
	case b >= 0xdc00 && b <= 0xdfff:
		return encode(0x10000 + 0x400*(a-0xd800) + b - 0xdc00), 12
	}
	return "", 0
}

func refFour(s string) int {
	if len(s) < 6 || s[:2] != `\u` {
		return -1
	}
	n := 0
	for _, sign := range []byte(s[2:6]) {
		at := strings.IndexByte("0123456789abcdef", sign|0x20)
		if at < 0 || sign < '0' {
			return -1
		}
		n = n*16 + at
	}
	return n
}

func TestUnquoteOfAll(t *testing.T) {
	look := func(s string) {
		for _, all := range []string{s, `"` + s, `"` + s + `"`, `"` + s + `"x`} {
			text, n := glyph.Unquote(all)
			want, long := refUnquote(all)
			if text != want || n != long {
				t.Fatalf("Unquote(%q) = %q, %d, want %q, %d", all, text, n, want, long)
			}
		}
	}
	eachText("\"\\u0nx\x1f\xc3\xa9", 5, look)
	eachText(edges, 3, look)
	pieces := []string{`\ud83d`, `\uDE00`, `\u0041`, `\u00`, `\`, `"`, "\u00e9", "\xff", "0", "d"}
	var grow func(s string, left int)
	grow = func(s string, left int) {
		look(s)
		if left == 0 {
			return
		}
		for _, p := range pieces {
			grow(s+p, left-1)
		}
	}
	grow("", 4)
}

func TestUnquoteOfLongOnes(t *testing.T) {
	const many = 1 << 20
	body := strings.Repeat(`\u0041`, many)
	if text, n := glyph.Unquote(`"` + body + `"`); text != strings.Repeat("A", many) || n != 6*many+2 {
		t.Errorf("a long text: %d bytes of %d", len(text), n)
	}
	if text, n := glyph.Unquote(`"` + body); text != "" || n != 0 {
		t.Errorf("a long text without an end: %d bytes of %d", len(text), n)
	}
}
