package seal_test

import (
	"bytes"
	"crypto/hmac"
	"crypto/sha256"
	"encoding/hex"
	"math/rand"
	"slices"
	"strings"
	"testing"
	"time"

	"heliast/seal"
)

// row is n bytes that hang on a seed.
func row(n int, seed int64) []byte {
	b := make([]byte, n)
	rand.New(rand.NewSource(seed)).Read(b)
	return b
}

func wantCode(key, msg []byte) []byte {
	h := hmac.New(sha256.New, key)
	h.Write(msg)
	return h.Sum(nil)
}

// TestPublishedCodes: those of RFC 4231 (its fifth has but a part of a code).
func TestPublishedCodes(t *testing.T) {
	rising := make([]byte, 25)
	for i := range rising {
		rising[i] = byte(i + 1)
	}
	for _, c := range []struct {
		key  []byte
		msg  string
		code string
	}{
		{bytes.Repeat([]byte{0x0b}, 20), "Hi There", "b0344c61d8db38535ca8afceaf0bf12b881dc200c9833da726e9376c2e32cff7"},
		{[]byte("Jefe"), "what do ya want for nothing?", "5bdcc146bf60754e6a042426089575c75a003f089d2739839dec58b964ec3843"},
		{bytes.Repeat([]byte{0xaa}, 20), strings.Repeat("\xdd", 50), "773ea91e36800e46854db8ebd09181a72959098b3ef8c122d9635514ced565fe"},
		{rising, strings.Repeat("\xcd", 50), "82558a389a443c0ea4cc819899f2083a85f0faa3e578f8077a2e3ff46729665b"},
		{bytes.Repeat([]byte{0xaa}, 131), "Test Using Larger Than Block-Size Key - Hash Key First", "60e431591ee0b67f0d8a26aacbf5b77f8e0bc6213728c5140546040f0ee37f54"},
		{bytes.Repeat([]byte{0xaa}, 131), "This is a test using a larger than block-size key and a larger than block-size data. The key needs to be hashed before being used by the HMAC algorithm.", "9b09ffa71b942fcb27635fbcd5b0e944bfdc63644f0713938a7f51535c3a35e2"},
		{nil, "", "b613679a0814d9ec772f95d778c35fc5ff1697c493715653c6c712144292c5ad"},
	} {
		if got := hex.EncodeToString(seal.Code(c.key, []byte(c.msg))); got != c.code {
			t.Errorf("Code(%x, %q) = %s, want %s", c.key, c.msg, got, c.code)
		}
	}
}

func TestCode(t *testing.T) {
	for ofKey := range 140 {
		for _, ofMsg := range []int{0, 1, 31, 32, 55, 56, 63, 64, 65, 120, 200} {
			key, msg := row(ofKey, int64(ofMsg)), row(ofMsg, int64(ofKey))
			if !bytes.Equal(seal.Code(key, msg), wantCode(key, msg)) {
				t.Fatalf("a key of %d bytes, a message of %d", ofKey, ofMsg)
			}
		}
	}
	for _, n := range []int{1 << 10, 1<<16 + 1, 1 << 20} {
		long := row(n, 1)
		if !bytes.Equal(seal.Code(long, nil), wantCode(long, nil)) || !bytes.Equal(seal.Code(nil, long), wantCode(nil, long)) {
			t.Errorf("a key or a message of %d bytes", n)
		}
	}
}

// TestKeys: noughts behind make the same key up to 64 bytes, and another one
// beyond; a longer key is its sum.
func TestKeys(t *testing.T) {
	msg := []byte("abc")
	for n := range 65 {
		short := row(n, 1)
		filled := append(slices.Clone(short), make([]byte, 64-n)...)
		if !bytes.Equal(seal.Code(short, msg), seal.Code(filled, msg)) {
			t.Errorf("a key of %d bytes, and noughts", n)
		}
		if bytes.Equal(seal.Code(short, msg), seal.Code(append(filled, 0), msg)) {
			t.Errorf("a key of %d bytes, and noughts up to 65", n)
		}
	}
	for _, n := range []int{65, 66, 128, 1000} {
		sum := sha256.Sum256(row(n, 2))
		if !bytes.Equal(seal.Code(row(n, 2), msg), seal.Code(sum[:], msg)) {
			t.Errorf("a key of %d bytes is not its sum", n)
		}
	}
	if !bytes.Equal(seal.Code(nil, nil), seal.Code([]byte{}, []byte{})) {
		t.Error("nil and an empty list are not the same")
	}
}

func TestEqual(t *testing.T) {
	if !seal.Equal(nil, nil) || !seal.Equal(nil, []byte{}) || !seal.Equal([]byte{}, nil) {
		t.Error("nothing and nothing")
	}
	for n := range 100 {
		a := row(n, 1)
		if !seal.Equal(a, a) || !seal.Equal(a, slices.Clone(a)) {
			t.Fatalf("%d bytes, twice", n)
		}
		if longer := append(slices.Clone(a), 0); seal.Equal(a, longer) || seal.Equal(longer, a) {
			t.Fatalf("%d bytes, and one more", n)
		}
		for i := range n {
			if seal.Equal(a, a[:i]) || seal.Equal(a[:i], a) || seal.Equal(a, a[i+1:]) {
				t.Fatalf("%d bytes, and a part of them", n)
			}
			for bit := range 8 {
				b := slices.Clone(a)
				b[i] ^= 1 << bit
				if seal.Equal(a, b) || seal.Equal(b, a) {
					t.Fatalf("%d bytes, and another bit %d of byte %d", n, bit, i)
				}
			}
		}
	}
	for x := range 256 {
		for y := range 256 {
			if seal.Equal([]byte{byte(x)}, []byte{byte(y)}) != (x == y) {
				t.Fatalf("%x and %x", x, y)
			}
			// Bits that differ in two places do not undo one another.
			if seal.Equal([]byte{byte(x), byte(y)}, []byte{byte(y), byte(x)}) != (x == y) {
				t.Fatalf("%x %x, and the other way round", x, y)
			}
		}
	}
}

// TestEqualWork: an Equal that stopped at the first byte would be some
// thousands of times as fast there as at the last one; this asks for less than
// 20, so that a busy machine does not matter.
func TestEqualWork(t *testing.T) {
	a := make([]byte, 1<<22)
	least := func(b []byte, want bool) time.Duration {
		best := time.Hour
		for range 7 {
			from := time.Now()
			if seal.Equal(a, b) != want {
				t.Fatal("a wrong answer")
			}
			best = min(best, time.Since(from))
		}
		return best
	}
	whole := least(make([]byte, len(a)), true)
	for _, at := range []int{0, 1, 100, 1 << 12} {
		b := make([]byte, len(a))
		b[at] = 1
		if early := least(b, false); early < whole/20 {
			t.Errorf("a difference at %d is told in %v, none in %v", at, early, whole)
		}
	}
}
