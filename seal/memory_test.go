package seal_test

import (
	"bytes"
	"slices"
	"testing"
	"unsafe"

	"heliast/seal"
)

// spoil writes into all that can be written into.
func spoil(b []byte) {
	b = b[:cap(b)]
	for i := range b {
		b[i] ^= 0xa5
	}
}

// TestHandedIn: what is handed in stays as it is, and so does what lies behind
// it, which is not read either.
func TestHandedIn(t *testing.T) {
	for _, n := range []int{0, 1, 2, 3, 32, 63, 64, 65, 200} {
		whole := row(n+100, 1)
		before := slices.Clone(whole)
		bare := slices.Clip(slices.Clone(whole[:n]))
		if !bytes.Equal(seal.Code(whole[:n], whole[:n]), seal.Code(bare, bare)) ||
			seal.Text(whole[:n]) != seal.Text(bare) || !seal.Equal(whole[:n], bare) {
			t.Errorf("%d bytes: what lies behind them is read", n)
		}
		if !bytes.Equal(whole, before) {
			t.Errorf("%d bytes: they, or what lies behind them, are not what they were", n)
		}
	}
}

// TestHandedOut: an answer is its asker's alone.
func TestHandedOut(t *testing.T) {
	key, msg, text := row(64, 1), row(100, 2), seal.Text(row(100, 3))
	for name, call := range map[string]func() []byte{
		"Code":            func() []byte { return seal.Code(key, msg) },
		"Code of nothing": func() []byte { return seal.Code(nil, nil) },
		"Bytes":           func() []byte { b, _ := seal.Bytes(text); return b },
		"Bytes of two":    func() []byte { b, _ := seal.Bytes("Zg"); return b },
		"Bytes of none":   func() []byte { b, _ := seal.Bytes(""); return b },
	} {
		first, second := call(), call()
		if len(first) != cap(first) {
			t.Errorf("%s: memory lies behind its answer", name)
		}
		before := slices.Clone(second)
		spoil(first)
		if !bytes.Equal(second, before) || !bytes.Equal(call(), before) {
			t.Errorf("%s: what is written into an answer is seen elsewhere", name)
		}
	}
	for name, call := range map[string]func() string{
		"Text": func() string { return seal.Text(msg) },
		"ID":   func() string { return seal.ID(text) },
	} {
		if unsafe.StringData(call()) == unsafe.StringData(call()) {
			t.Errorf("%s: two answers are the same memory", name)
		}
	}
}
