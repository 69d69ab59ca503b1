package names_test

import (
	"bytes"
	"math/rand"
	"strings"
	"testing"
	"time"

	"heliast/names"
)

// refGlob asks of each two ends of both, from the last on, whether they fit.
func refGlob(pattern, s string) bool {
	fits := make([][]bool, len(pattern)+1)
	for p := range fits {
		fits[p] = make([]bool, len(s)+1)
	}
	fits[len(pattern)][len(s)] = true
	for p := len(pattern) - 1; p >= 0; p-- {
		for i := len(s); i >= 0; i-- {
			switch {
			case pattern[p] == '*':
				fits[p][i] = fits[p+1][i] || i < len(s) && fits[p][i+1]
			case i < len(s) && (pattern[p] == '?' || pattern[p] == s[i]):
				fits[p][i] = fits[p+1][i+1]
			}
		}
	}
	return fits[0][0]
}

func TestGlob(t *testing.T) {
	for _, c := range []struct {
		pattern, s string
		want       bool
	}{
		{"*.bad", "a.bad", true},
		{"*.bad", ".bad", true},
		{"*.bad", "bad", false},
		{"*.bad", "a.b.bad", true},
		{"*.bad", "a.bad.bad", true},
		{"*.bad", "a.bad.b", false},
		{"*.bad", "a.badx", false},
		{"", "", true},
		{"", "a", false},
		{"a", "", false},
		{"a", "a", true},
		{"a", "b", false},
		{"a", "aa", false},
		{"aa", "a", false},
		{"a", "A", false},
		{"*", "", true},
		{"*", "a", true},
		{"*", "anything at all\n\x00\xff/*?", true},
		{"**", "", true},
		{"**", "a", true},
		{"***a***", "a", true},
		{"***a***", "b", false},
		{"?", "", false},
		{"?", "a", true},
		{"?", "ab", false},
		{"?", "*", true},
		{"?", "?", true},
		{"?", "\x00", true},
		{"?", "\n", true},
		{"?", "\xff", true},
		{"?", "\u00e9", false},
		{"??", "\u00e9", true},
		{"\xc3?", "\u00e9", true},
		{"*\xa9", "\u00e9", true},
		{"\u00e9", "\u00e9", true},
		{"\u00e9", "e\u0301", false},
		{"\xff", "\xfe", false},
		{"\ufffd", "\xff", false},
		{"\xff", "\ufffd", false},
		{"a*", "a", true},
		{"a*", "ab", true},
		{"a*", "ba", false},
		{"*a", "a", true},
		{"*a", "ba", true},
		{"*a", "ab", false},
		{"*a*", "bab", true},
		{"*a*", "bbb", false},
		{"a*a", "a", false},
		{"a*a", "aa", true},
		{"a*a", "aba", true},
		{"a*a", "abab", false},
		{"a*b*c", "axbxc", true},
		{"a*b*c", "abc", true},
		{"a*b*c", "acb", false},
		{"*ab*ab", "ab", false},
		{"*ab*ab", "abab", true},
		{"*ab*ab", "aabab", true},
		{"*aab", "aaab", true},
		{"*aba", "ababa", true},
		{"*?", "", false},
		{"*?", "a", true},
		{"?*", "", false},
		{"?*?", "a", false},
		{"?*?", "ab", true},
		{"*?*?*", "a", false},
		{"*?*?*", "ab", true},
		{"*?b", "ab", true},
		{"*?b", "b", false},
		{"*?b", "bbb", true},
		{"*", "*", true},
		{"a*c", "a*c", true},
		{"a*c", "abc", true},
		{"abc", "a*c", false},
		{"abc", "a?c", false},
		{"abc", "*", false},
		{"a", "*", false},
		{"\\*", "*", false},
		{"\\*", "\\*", true},
		{"\\*", "\\ab", true},
		{"[ab]", "a", false},
		{"[ab]", "[ab]", true},
		{"{a,b}", "a", false},
		{".", "a", false},
		{"a.c", "abc", false},
		{"a+", "aa", false},
		{"^a$", "a", false},
		{"10.*", "10.0.0.1", true},
		{"a.b", "a.b:80", false},
	} {
		if got := names.Glob(c.pattern, c.s); got != c.want {
			t.Errorf("Glob(%q, %q) = %v", c.pattern, c.s, got)
		}
		if refGlob(c.pattern, c.s) != c.want {
			t.Errorf("%q and %q: the table says otherwise than the second writing", c.pattern, c.s)
		}
	}
}

// TestGlobOfSmallTexts: all small patterns with all small texts, stars and
// question marks in the texts, too.
func TestGlobOfSmallTexts(t *testing.T) {
	check := func(pattern, s string) {
		if got := names.Glob(pattern, s); got != refGlob(pattern, s) {
			t.Fatalf("Glob(%q, %q) = %v", pattern, s, got)
		}
	}
	each("ab*?", 5, func(pattern string) {
		each("ab", 6, func(s string) { check(pattern, s) })
	})
	each("a*?", 4, func(pattern string) {
		each("a*?", 4, func(s string) { check(pattern, s) })
	})
}

// TestGlobOfEachByte: each byte is itself, and one byte for a question mark.
func TestGlobOfEachByte(t *testing.T) {
	for a := range 256 {
		pattern := "x" + string([]byte{byte(a)}) + "y"
		for b := range 256 {
			s := "x" + string([]byte{byte(b)}) + "y"
			if got, want := names.Glob(pattern, s), a == b || a == '*' || a == '?'; got != want {
				t.Fatalf("Glob(%q, %q) = %v", pattern, s, got)
			}
		}
	}
}

func TestGlobDrawn(t *testing.T) {
	draw := rand.New(rand.NewSource(7))
	of := func(signs string, most int) string {
		b := make([]byte, draw.Intn(most))
		for i := range b {
			b[i] = signs[draw.Intn(len(signs))]
		}
		return string(b)
	}
	fit := 0
	for range 100000 {
		pattern, s := of("aab**?", 14), of("aaab", 24)
		got := names.Glob(pattern, s)
		if got != refGlob(pattern, s) {
			t.Fatalf("Glob(%q, %q) = %v", pattern, s, got)
		}
		if got {
			fit++
		}
	}
	if fit < 1000 {
		t.Errorf("only %d of those drawn fit", fit)
	}
}

// TestStarIsAnyBytes: a pattern made of a text, with a star in place of any
// piece of it, has that text.
func TestStarIsAnyBytes(t *testing.T) {
	s := "ab\xff\x00*?\u00e9ab"
	for i := range len(s) + 1 {
		for j := i; j <= len(s); j++ {
			if !names.Glob(s[:i]+"*"+s[j:], s) {
				t.Errorf("%q is not as %q has it", s, s[:i]+"*"+s[j:])
			}
			if names.Glob("x"+s[:i]+"*"+s[j:], s) || names.Glob(s[:i]+"*"+s[j:]+"x", s) {
				t.Errorf("%q is as a pattern with another byte has it", s)
			}
		}
	}
}

// TestManyStars: what grows with each star to the power of all would not end.
func TestManyStars(t *testing.T) {
	began := time.Now()
	s := strings.Repeat("a", 2000)
	for _, c := range []struct {
		pattern string
		want    bool
	}{
		{strings.Repeat("*a", 1000) + "b", false},
		{strings.Repeat("a*", 1000) + "b", false},
		{strings.Repeat("*a", 2000), true},
		{strings.Repeat("*a", 2001), false},
		{strings.Repeat("*?", 2000), true},
		{strings.Repeat("*?", 2001), false},
		{strings.Repeat("*", 100000), true},
		{strings.Repeat("*", 100000) + "b", false},
		{"*" + strings.Repeat("a", 1000) + "b", false},
		{"*" + strings.Repeat("?", 1000) + "b*", false},
	} {
		if got := names.Glob(c.pattern, s); got != c.want {
			t.Errorf("Glob of a pattern of %d bytes: %v", len(c.pattern), got)
		}
	}
	long := string(bytes.Repeat([]byte("ab"), 1<<20))
	if !names.Glob("*", long) || !names.Glob(long, long) || names.Glob("*c", long) || names.Glob(long, long+"a") || names.Glob(long+"a", long) {
		t.Error("long texts")
	}
	if took := time.Since(began); took > 20*time.Second {
		t.Errorf("it took %v", took)
	}
}
