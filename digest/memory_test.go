package digest_test

import (
	"bytes"
	"slices"
	"testing"

	"heliast/digest"
)

// spoil writes into all that can be written into.
func spoil(b []byte) {
	b = b[:cap(b)]
	for i := range b {
		b[i] ^= 0xa5
	}
}

// TestHandedIn: what is handed in stays as it is, what lies behind it too, and
// what becomes of it later is not seen.
func TestHandedIn(t *testing.T) {
	for _, n := range []int{0, 1, 55, 63, 64, 65, 128, 200} {
		whole := row(n+100, 1)
		before := slices.Clone(whole)
		h := digest.New()
		h.Write(whole[:n/2])
		h.Write(whole[n/2 : n])
		if !bytes.Equal(digest.Sum(whole[:n]), want(before[:n])) || !bytes.Equal(whole, before) {
			t.Fatalf("%d bytes: the sum, or what was handed in", n)
		}
		spoil(whole)
		if !bytes.Equal(h.Sum(), want(before[:n])) {
			t.Fatalf("%d bytes: what was handed in is kept", n)
		}
	}
}

// TestOneBuffer: pieces may all come in the same memory.
func TestOneBuffer(t *testing.T) {
	h := digest.New()
	var all []byte
	piece := make([]byte, 37)
	for i := range 50 {
		for j := range piece {
			piece[j] = byte(i * j)
		}
		h.Write(piece)
		all = append(all, piece...)
	}
	if !bytes.Equal(h.Sum(), want(all)) {
		t.Error("pieces in the same memory")
	}
}

// TestHandedOut: an answer is its asker's alone.
func TestHandedOut(t *testing.T) {
	b := row(100, 1)
	h := digest.New()
	h.Write(b)
	for name, call := range map[string]func() []byte{
		"Sum":             func() []byte { return digest.Sum(b) },
		"Tail":            func() []byte { return digest.Tail(100) },
		"a Hasher's Sum":  h.Sum,
		"a new one's Sum": digest.New().Sum,
		"nil's Sum":       (*digest.Hasher)(nil).Sum,
	} {
		first, second := call(), call()
		if len(first) != cap(first) {
			t.Errorf("%s: memory lies behind its answer", name)
		}
		before := slices.Clone(second)
		spoil(first)
		if !bytes.Equal(second, before) || !bytes.Equal(call(), before) {
			t.Errorf("%s: what is written into an answer is seen elsewhere", name)
		}
	}
}

// TestTwoHashers: two of them know nothing of one another, even where one was
// made out of the other one.
func TestTwoHashers(t *testing.T) {
	a, b := digest.New(), digest.New()
	for i := range 200 {
		a.Write([]byte{byte(i)})
		b.Write([]byte{byte(i), 7})
	}
	var ofA, ofB []byte
	for i := range 200 {
		ofA = append(ofA, byte(i))
		ofB = append(ofB, byte(i), 7)
	}
	c := *a
	c.Write(ofB)
	if !bytes.Equal(a.Sum(), want(ofA)) || !bytes.Equal(b.Sum(), want(ofB)) || a.Long() != 200 || b.Long() != 400 {
		t.Error("two that are written to in turn")
	}
	if !bytes.Equal(c.Sum(), want(append(ofA, ofB...))) {
		t.Error("one that was made out of another one")
	}
}
