package glyph_test

import (
	"strings"
	"testing"

	"heliast/glyph"
)

func TestCheck(t *testing.T) {
	for _, c := range []struct {
		s    string
		want int
	}{
		{"", -1},
		{"a", -1},
		{"\x00\x1f\x7f", -1},
		{"a\u00e9\u20ac\U0001f600", -1},
		{"\ufffd", -1},
		{"a\ufffd\xff", 4},
		{"\u07ff\u0800\ud7ff\ue000\uffff\U00010000\U0010ffff", -1},
		{"a\xff", 1},
		{"\xff", 0},
		{"\x80", 0},
		{"\u00e9\x80", 2},
		{"\u20ac\xbf", 3},
		{"\U0001f600\x80", 4},
		{"ab\xc3", 2},
		{"ab\xe2\x82", 2},
		{"ab\xf0\x9f\x98", 2},
		{"\xc3a", 0},
		{"\xe2\x82a", 0},
		{"\xf0\x9f\x98a", 0},
		{"\xc0\x80", 0},
		{"\xc1\xbf", 0},
		{"\xe0\x80\x80", 0},
		{"\xe0\x9f\xbf", 0},
		{"\xf0\x80\x80\x80", 0},
		{"\xf0\x8f\xbf\xbf", 0},
		{"\xed\xa0\x80", 0},
		{"a\xed\xaf\xbf", 1},
		{"a\xed\xb0\x80", 1},
		{"\xed\xbf\xbf", 0},
		{"\xed\xa0\xbd\xed\xb8\x80", 0},
		{"\xf4\x8f\xbf\xbf", -1},
		{"\xf4\x90\x80\x80", 0},
		{"\xf5\x80\x80\x80", 0},
		{"\xf8\x88\x80\x80\x80", 0},
		{"\xef\xbf", 0},
		{"\xff\xff", 0},
	} {
		if got := glyph.Check(c.s); got != c.want {
			t.Errorf("Check(%q) = %d, want %d", c.s, got, c.want)
		}
	}
}

func TestRunes(t *testing.T) {
	for _, c := range []struct {
		s    string
		want int
	}{
		{"", 0},
		{"a", 1},
		{"\x00", 1},
		{"\u00e9a", 2},
		{"a\u00e9\u20ac\U0001f600", 4},
		{"\ufffd", 1},
		{"\xff", 1},
		{"\xff\xfe", 2},
		{"a\xffb", 3},
		{"\xc3", 1},
		{"\xe2\x82", 2},
		{"\xe2\x82a", 3},
		{"\xf0\x9f\x98", 3},
		{"\xc0\x80", 2},
		{"\xed\xa0\x80", 3},
		{"\xf4\x90\x80\x80", 4},
		{"\u00e9\x80", 2},
	} {
		if got := glyph.Runes(c.s); got != c.want {
			t.Errorf("Runes(%q) = %d, want %d", c.s, got, c.want)
		}
	}
}

func TestEveryNumber(t *testing.T) {
	eachRune(func(n int, s string) {
		if glyph.Check(s) != -1 || glyph.Runes(s) != 1 {
			t.Fatalf("%x: Check %d, Runes %d", n, glyph.Check(s), glyph.Runes(s))
		}
		if bad := s + "\x80"; glyph.Check(bad) != len(s) || glyph.Runes(bad) != 2 {
			t.Fatalf("%x and a byte: Check %d, Runes %d", n, glyph.Check(bad), glyph.Runes(bad))
		}
		if cut := s[:len(s)-1]; cut != "" && (glyph.Check(cut) != 0 || glyph.Runes(cut) != len(cut)) {
			t.Fatalf("%x cut short: Check %d, Runes %d", n, glyph.Check(cut), glyph.Runes(cut))
		}
	})
	for n := 0xd800; n <= 0xdfff; n++ {
		if s := encode(n); glyph.Check(s) != 0 || glyph.Runes(s) != 3 {
			t.Fatalf("half %x: Check %d, Runes %d", n, glyph.Check(s), glyph.Runes(s))
		}
	}
	for n := 0x110000; n <= 0x1fffff; n++ {
		if s := encode(n); glyph.Check(s) != 0 || glyph.Runes(s) != 4 {
			t.Fatalf("too great %x: Check %d, Runes %d", n, glyph.Check(s), glyph.Runes(s))
		}
	}
}

func TestShortTexts(t *testing.T) {
	look := func(s string) {
		if got, want := glyph.Check(s), refCheck(s); got != want {
			t.Fatalf("Check(%q) = %d, want %d", s, got, want)
		}
		if got, want := glyph.Runes(s), refRunes(s); got != want {
			t.Fatalf("Runes(%q) = %d, want %d", s, got, want)
		}
	}
	var all strings.Builder
	for i := 0; i < 256; i++ {
		all.WriteByte(byte(i))
	}
	eachText(all.String(), 2, look)
	eachText(edges, 4, look)
}

func TestLess(t *testing.T) {
	for _, c := range []struct {
		a, b string
		want bool
	}{
		{"", "", false},
		{"", "a", true},
		{"a", "", false},
		{"a", "a", false},
		{"a", "b", true},
		{"b", "a", false},
		{"a", "ab", true},
		{"ab", "a", false},
		{"ab", "b", true},
		{"b", "ab", false},
		{"Z", "a", true},
		{"a\x00", "a", false},
		{"\x7f", "\x80", true},
		{"\xff", "a", false},
		{"\uffff", "\U00010000", true},
		{"\U00010000", "\uffff", false},
		{"\ufffd", "\xff", true},
		{"\x80", "\xff", true},
	} {
		if got := glyph.Less(c.a, c.b); got != c.want {
			t.Errorf("Less(%q, %q) = %v, want %v", c.a, c.b, got, c.want)
		}
	}
}

// refLess goes byte by byte, as the chapter has it.
func refLess(a, b string) bool {
	for i := 0; i < len(a) && i < len(b); i++ {
		if a[i] != b[i] {
			return a[i] < b[i]
		}
	}
	return len(a) < len(b)
}

func TestLessOfAll(t *testing.T) {
	var texts []string
	eachText("\x00a\x7f\x80\xff", 3, func(s string) { texts = append(texts, s) })
	for _, a := range texts {
		for _, b := range texts {
			if got, want := glyph.Less(a, b), refLess(a, b); got != want {
				t.Fatalf("Less(%q, %q) = %v, want %v", a, b, got, want)
			}
		}
	}
}
