package glyph_test

import (
	"encoding/json"
	"fmt"
	"strings"
	"testing"
	"unsafe"

	"heliast/glyph"
)

func TestQuote(t *testing.T) {
	for _, c := range []struct{ s, want string }{
		{"", `""`},
		{"a", `"a"`},
		{`a"`, `"a\""`},
		{"a\"\x01", `"a\"\u0001"`},
		{`\`, `"\\"`},
		{`\"`, `"\\\""`},
		{"/", `"/"`},
		{"\b\t\n\f\r", `"\b\t\n\f\r"`},
		{"\x00\x07\x0b\x0e\x1f", `"\u0000\u0007\u000b\u000e\u001f"`},
		{" \x7f", "\" \x7f\""},
		{"<&>'", `"<&>'"`},
		{"\u00e9\u20ac\U0001f600", "\"\u00e9\u20ac\U0001f600\""},
		{"\u0080\u2028\u2029\ufffd\ufeff", "\"\u0080\u2028\u2029\ufffd\ufeff\""},
		{"\xff", "\"\xff\""},
		{"a\xff\x80\"\xc3", "\"a\xff\x80\\\"\xc3\""},
		{"\xed\xa0\x80\n", "\"\xed\xa0\x80\\n\""},
		{`\u0041`, `"\\u0041"`},
	} {
		if got := glyph.Quote(c.s); got != c.want {
			t.Errorf("Quote(%q) = %q, want %q", c.s, got, c.want)
		}
	}
}

func TestQuoteOfEachByte(t *testing.T) {
	named := map[int]string{'"': `\"`, '\\': `\\`, 8: `\b`, 9: `\t`, 10: `\n`, 12: `\f`, 13: `\r`}
	for n := 0; n < 256; n++ {
		s := string([]byte{byte(n)})
		want := s
		if named[n] != "" {
			want = named[n]
		} else if n < 0x20 {
			want = fmt.Sprintf(`\u%04x`, n)
		}
		if got := glyph.Quote("x" + s + "y"); got != `"x`+want+`y"` {
			t.Errorf("Quote of the byte %x = %q, want %q", n, got, want)
		}
	}
}

func TestThereAndBack(t *testing.T) {
	back := func(s string) {
		q := glyph.Quote(s)
		text, n := glyph.Unquote(q)
		if text != s || n != len(q) {
			t.Fatalf("Unquote(Quote(%q)) = %q, %d", s, text, n)
		}
		if text, n = glyph.Unquote(q + `x"`); text != s || n != len(q) {
			t.Fatalf("Unquote(Quote(%q) and more) = %q, %d", s, text, n)
		}
		var other string
		if err := json.Unmarshal([]byte(q), &other); err != nil || other != s {
			t.Fatalf("Quote(%q) is no string of JSON: %q, %v", s, other, err)
		}
	}
	for n := 0; n < 0x3000; n++ {
		back(encode(n))
	}
	for _, n := range []int{0xd7ff, 0xe000, 0xfffd, 0xffff, 0x10000, 0x1f600, 0x10ffff} {
		back("a" + encode(n) + "\"")
	}
	eachText("\x00\x1f \"\\/bu0\n", 4, back)
	back(strings.Repeat("\\\"\u20ac\x01z", 1<<17))
}

func TestBackOfBytesThatAreNoRune(t *testing.T) {
	eachText(edges, 3, func(s string) {
		text, n := glyph.Unquote(glyph.Quote(s))
		if refCheck(s) < 0 {
			if text != s || n == 0 {
				t.Fatalf("Unquote(Quote(%q)) = %q, %d", s, text, n)
			}
		} else if text != "" || n != 0 {
			t.Fatalf("Unquote(Quote(%q)) = %q, %d, want nothing", s, text, n)
		}
	})
}

// shares says whether two texts lie in one another's memory.
func shares(a, b string) bool {
	if a == "" || b == "" {
		return false
	}
	from := func(s string) uintptr { return uintptr(unsafe.Pointer(unsafe.StringData(s))) }
	return from(a) < from(b)+uintptr(len(b)) && from(b) < from(a)+uintptr(len(a))
}

func TestNewMemory(t *testing.T) {
	s := strings.Repeat("a", 100)
	if shares(glyph.Quote(s), s) {
		t.Error("Quote shares what was handed in")
	}
	q := `"` + s + `"`
	text, _ := glyph.Unquote(q)
	if shares(text, q) {
		t.Error("Unquote shares what was handed in")
	}
	if again, _ := glyph.Unquote(q); shares(text, again) {
		t.Error("two answers of Unquote share memory")
	}
}
