package seal_test

import (
	"bytes"
	"crypto/sha256"
	"encoding/base64"
	"math/rand"
	"strings"
	"testing"
	"unicode/utf8"

	"heliast/seal"
)

const signs = "ABCDEFGHIJKLMNOPQRSTUVWXYZabcdefghijklmnopqrstuvwxyz0123456789-_"

// strict is the library's way; but it passes over line ends, which are no
// signs here.
var strict = base64.RawURLEncoding.Strict()

func wantBytes(s string) ([]byte, bool) {
	if strings.ContainsAny(s, "\r\n") {
		return nil, false
	}
	b, err := strict.DecodeString(s)
	if err != nil {
		return nil, false
	}
	return b, true
}

// hold holds Bytes of s against the library's, and its answer's Text against s.
func hold(t *testing.T, s string) {
	t.Helper()
	got, ok := seal.Bytes(s)
	want, is := wantBytes(s)
	if ok != is || !bytes.Equal(got, want) {
		t.Fatalf("Bytes(%q) = %x, %v, want %x, %v", s, got, ok, want, is)
	}
	if ok && seal.Text(got) != s {
		t.Fatalf("Bytes(%q) = %x, whose Text is %q", s, got, seal.Text(got))
	}
	if !ok && got != nil {
		t.Fatalf("Bytes(%q): something beside false", s)
	}
}

func thereAndBack(t *testing.T, b []byte) {
	t.Helper()
	s := seal.Text(b)
	if s != strict.EncodeToString(b) {
		t.Fatalf("Text(%x) = %q", b, s)
	}
	if back, ok := seal.Bytes(s); !ok || !bytes.Equal(back, b) {
		t.Fatalf("Text(%x) = %q, whose Bytes are %x, %v", b, s, back, ok)
	}
}

func TestExamples(t *testing.T) {
	for _, c := range []struct{ b, s string }{
		{"", ""},
		{"\x00\x10\x83", "ABCD"},
		{"f", "Zg"},
		{"fo", "Zm8"},
		{"foo", "Zm9v"},
		{"foob", "Zm9vYg"},
		{"fooba", "Zm9vYmE"},
		{"foobar", "Zm9vYmFy"},
		{"\x00", "AA"},
		{"\x00\x00", "AAA"},
		{"\xff", "_w"},
		{"\xff\xff", "__8"},
		{"\xff\xff\xff", "____"},
		{"\xfb\xef\xbe", "----"},
	} {
		if got := seal.Text([]byte(c.b)); got != c.s {
			t.Errorf("Text(%x) = %q, want %q", c.b, got, c.s)
		}
		if got, ok := seal.Bytes(c.s); !ok || string(got) != c.b {
			t.Errorf("Bytes(%q) = %x, %v, want %x", c.s, got, ok, c.b)
		}
	}
	if seal.Text(nil) != seal.Text([]byte{}) {
		t.Error("nil and an empty list are not the same")
	}
}

func TestNoBytes(t *testing.T) {
	for _, s := range []string{
		"A", "AB", "AAB", "AAC", "AAAAA", "AAAAAB", "AAAAAAB", "____A", "_x", "__9", "__-",
		"=", "AA==", "AA=", "AAA=", "AAAA=", "AAAA====", "A+AA", "A/AA", "AA A", " AAAA", "AAAA ", "AAAA\n", "AA\nAA", "AA\r\n", "\n",
		"AAA\x00", "\x00", "AAA.", "AAA@", "AAA[", "AAA`", "AAA{", "AAA:", "AAA,", "$AAA", "\xff", "AAA\xff", "AA\xffA", "\xc1\x81", "AAA\xc1\x81", "\xe0\x81\x81",
		"\u00e9", "AAA\u00e9", "AA\u00e9", "\uff21\uff21", "\ufffd", "\U0001f600", "AAA\u0141", "\u0141\u0141\u0141\u0141", "\u0130\u017f\u212a",
	} {
		if got, ok := seal.Bytes(s); ok || got != nil {
			t.Errorf("Bytes(%q) = %x, %v, want none", s, got, ok)
		}
		hold(t, s)
	}
}

func TestAllShort(t *testing.T) {
	thereAndBack(t, nil)
	for x := range 1 << 16 {
		thereAndBack(t, []byte{byte(x >> 8), byte(x)})
	}
	for x := range 1 << 8 {
		thereAndBack(t, []byte{byte(x)})
		for bit := range 24 {
			y := 1<<bit ^ x<<(bit%17)
			thereAndBack(t, []byte{byte(y >> 16), byte(y >> 8), byte(y)})
		}
	}
	hold(t, "")
	for x := range 1 << 8 {
		hold(t, string([]byte{byte(x)}))
		for y := range 1 << 8 {
			hold(t, string([]byte{byte(x), byte(y)}))
		}
		// Every byte at every place of a whole text: of 64 of them it is one.
		for at := range 8 {
			b := []byte("AbCd-_09")
			b[at] = byte(x)
			hold(t, string(b))
			hold(t, string(b[:7]))
			hold(t, string(b[:6]))
		}
	}
}

// TestSigns: all rows of three signs, with which the bits behind are seen.
func TestSigns(t *testing.T) {
	if len(signs) != 64 {
		t.Fatal("there are not 64 signs")
	}
	ok := 0
	for x := range 1 << 18 {
		s := string([]byte{signs[x>>12], signs[x>>6%64], signs[x%64]})
		b, is := seal.Bytes(s)
		if is != (x%4 == 0) {
			t.Fatalf("Bytes(%q): %v", s, is)
		}
		if is {
			ok++
			if len(b) != 2 || int(b[0])<<8|int(b[1]) != x>>2 {
				t.Fatalf("Bytes(%q) = %x", s, b)
			}
		}
	}
	if ok != 1<<16 {
		t.Errorf("%d of them are of two bytes", ok)
	}
}

// TestRunes: whatever rune it is, but for 64, it is no sign, alone and among
// signs.
func TestRunes(t *testing.T) {
	n := 0
	for r := rune(0); r <= utf8.MaxRune; r++ {
		_, ok := seal.Bytes("AAA" + string(r))
		is := r < 128 && strings.ContainsRune(signs, r)
		if ok != is {
			t.Fatalf("%x: %v", r, ok)
		}
		if _, alone := seal.Bytes(string(r)); alone {
			t.Fatalf("%x alone", r)
		}
		if ok {
			n++
		}
	}
	if n != 64 {
		t.Errorf("%d signs", n)
	}
}

func TestDrawn(t *testing.T) {
	from := rand.New(rand.NewSource(1))
	for range 20000 {
		b := row(from.Intn(100), from.Int63())
		thereAndBack(t, b)
		s := []byte(seal.Text(b))
		for range from.Intn(3) { // whatever else is no text, or another one
			at := from.Intn(len(s) + 1)
			switch from.Intn(3) {
			case 0:
				s = append(s[:at], append([]byte{signs[from.Intn(64)]}, s[at:]...)...)
			case 1:
				s = s[:at]
			case 2:
				if at < len(s) {
					s[at] = byte(from.Intn(256))
				}
			}
		}
		hold(t, string(s))
	}
	for n := range 300 {
		thereAndBack(t, row(n, 7))
		thereAndBack(t, bytes.Repeat([]byte{0xff}, n))
		thereAndBack(t, make([]byte, n))
	}
	thereAndBack(t, row(1<<20+1, 1))
}

func TestID(t *testing.T) {
	for s, want := range map[string]string{
		"":    "$47DEQpj8HBSa-_TImW-5JCeuQeRkm5NMpJWZG3hSuFU",
		"abc": "$ungWv48Bz-pBQUDeXa4iI7ADYaOWF3qctBD_YfIAFa0",
	} {
		if got := seal.ID(s); got != want {
			t.Errorf("ID(%q) = %q, want %q", s, got, want)
		}
	}
	for n := range 300 {
		b := row(n, 3)
		sum := sha256.Sum256(b)
		got := seal.ID(string(b))
		if got != "$"+strict.EncodeToString(sum[:]) || !seal.Named(got) {
			t.Fatalf("ID of %d bytes: %q", n, got)
		}
	}
}

func TestNamed(t *testing.T) {
	for n := range 100 {
		s := "$" + seal.Text(row(n, 1))
		if seal.Named(s) != (n == 32) {
			t.Errorf("Named(%q) of %d bytes: %v", s, n, seal.Named(s))
		}
	}
	name := seal.ID("abc")
	if len(name) != 44 {
		t.Fatal("a name has not 44 bytes")
	}
	for _, s := range []string{
		"", "$", name[1:], "$" + name, name + "A", name + "=", name + "$", name + "\n", " " + name, name[:43], "#" + name[1:], "!" + name[1:], "A" + name[1:],
		"$" + name[2:], "\xff" + name[1:], "\uff04" + name[1:], name[1:] + "$", "$$" + name[2:],
	} {
		if seal.Named(s) {
			t.Errorf("Named(%q)", s)
		}
	}
	for at := 1; at < len(name); at++ {
		for x := range 256 {
			b := []byte(name)
			b[at] = byte(x)
			number := strings.IndexByte(signs, byte(x))
			// Of 43 signs the last has four bits of the 256, and two behind.
			want := number >= 0 && (at < 43 || number%4 == 0)
			if seal.Named(string(b)) != want {
				t.Fatalf("Named(%q): %v", b, !want)
			}
		}
	}
}
