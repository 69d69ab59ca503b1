package digest_test

import (
	"bytes"
	"crypto/sha256"
	"encoding/hex"
	"math/big"
	"math/rand"
	"slices"
	"strings"
	"testing"

	"heliast/digest"
)

// row is n bytes that hang on a seed.
func row(n int, seed int64) []byte {
	b := make([]byte, n)
	rand.New(rand.NewSource(seed)).Read(b)
	return b
}

func want(b []byte) []byte {
	s := sha256.Sum256(b)
	return s[:]
}

func TestPublished(t *testing.T) {
	for s, sum := range map[string]string{
		"":    "e3b0c44298fc1c149afbf4c8996fb92427ae41e4649b934ca495991b7852b855",
		"abc": "ba7816bf8f01cfea414140de5dae2223b00361a396177a9cb410ff61f20015ad",
		"abcdbcdecdefdefgefghfghighijhijkijkljklmklmnlmnomnopnopq":                                                         "248d6a61d20638b8e5c026930c3e6039a33ce45964ff2167f6ecedd419db06c1",
		"abcdefghbcdefghicdefghijdefghijkefghijklfghijklmghijklmnhijklmnoijklmnopjklmnopqklmnopqrlmnopqrsmnopqrstnopqrstu": "cf5b16a778af8380036ce59e7b0492370b249b11e8f07a51afac45037afee9d1",
		strings.Repeat("a", 1000000): "cdc76e5c9914fb9281a1c7e284d73e67f1809a48a497200e046d39ccc7112cd0",
	} {
		if got := hex.EncodeToString(digest.Sum([]byte(s))); got != sum {
			t.Errorf("Sum of %d bytes: %s, want %s", len(s), got, sum)
		}
	}
	if !bytes.Equal(digest.Sum(nil), digest.Sum([]byte{})) {
		t.Error("nil and an empty list are not the same")
	}
}

func TestSum(t *testing.T) {
	for n := range 700 {
		for seed := range int64(3) {
			b := row(n, seed)
			if !bytes.Equal(digest.Sum(b), want(b)) {
				t.Fatalf("Sum of %d bytes", n)
			}
		}
		for _, c := range []byte{0, 0x80, 0xff} {
			b := bytes.Repeat([]byte{c}, n)
			if !bytes.Equal(digest.Sum(b), want(b)) {
				t.Fatalf("Sum of %d times %x", n, c)
			}
		}
	}
	for _, n := range []int{1<<16 - 1, 1 << 16, 1<<16 + 1, 1<<22 - 9, 1 << 22} {
		b := row(n, 1)
		if !bytes.Equal(digest.Sum(b), want(b)) {
			t.Errorf("Sum of %d bytes", n)
		}
	}
}

// wantTail puts noughts behind till all of it is whole blocks, by numbers that
// do not go round.
func wantTail(n uint64) []byte {
	long := new(big.Int).SetUint64(n)
	out := []byte{0x80}
	for {
		all := new(big.Int).Add(long, big.NewInt(int64(len(out)+8)))
		if all.Mod(all, big.NewInt(64)).Sign() == 0 {
			break
		}
		out = append(out, 0)
	}
	bits := new(big.Int).Mul(long, big.NewInt(8))
	bits.Mod(bits, new(big.Int).Lsh(big.NewInt(1), 64))
	return append(out, bits.FillBytes(make([]byte, 8))...)
}

func TestTail(t *testing.T) {
	hold := func(n uint64) {
		t.Helper()
		if got := digest.Tail(n); !bytes.Equal(got, wantTail(n)) {
			t.Errorf("Tail(%d) = %x, want %x", n, got, wantTail(n))
		}
	}
	for n := range uint64(1000) {
		hold(n)
		hold(-n)
	}
	for bit := range 64 {
		for d := range uint64(130) {
			hold(1<<bit + d)
			hold(1<<bit - d)
		}
	}
	from := rand.New(rand.NewSource(1))
	for range 2000 {
		hold(from.Uint64())
	}
	for n, long := range map[uint64]int{0: 64, 1: 63, 3: 61, 54: 10, 55: 9, 56: 72, 57: 71, 63: 65, 64: 64, 119: 9, 120: 72, 1<<64 - 1: 65, 1<<64 - 9: 9, 1<<64 - 8: 72} {
		if got := len(digest.Tail(n)); got != long {
			t.Errorf("Tail(%d) has %d bytes, want %d", n, got, long)
		}
	}
}

func TestPieces(t *testing.T) {
	b := row(200, 1)
	for n := range len(b) + 1 {
		for cut := range n + 1 {
			h := digest.New()
			if h.Write(b[:cut]) != cut || h.Write(b[cut:n]) != n-cut {
				t.Fatal("Write does not tell how many bytes")
			}
			if !bytes.Equal(h.Sum(), want(b[:n])) || h.Long() != uint64(n) {
				t.Fatalf("%d bytes, and %d more", cut, n-cut)
			}
		}
	}
	for _, size := range []int{1, 2, 3, 31, 55, 56, 63, 64, 65, 127, 128, 129} {
		h := digest.New()
		for piece := range slices.Chunk(row(5000, 2), size) {
			h.Write(piece)
		}
		if !bytes.Equal(h.Sum(), want(row(5000, 2))) || h.Long() != 5000 {
			t.Errorf("pieces of %d bytes", size)
		}
	}
}

// TestDrawnPieces: whatever is asked between the pieces, the sum is that of all
// bytes so far.
func TestDrawnPieces(t *testing.T) {
	from := rand.New(rand.NewSource(1))
	for range 500 {
		h := digest.New()
		var all []byte
		for range 12 {
			piece := row(from.Intn(1+from.Intn(200)), from.Int63())
			if got := h.Write(piece); got != len(piece) {
				t.Fatalf("Write tells %d of %d bytes", got, len(piece))
			}
			all = append(all, piece...)
			if h.Long() != uint64(len(all)) {
				t.Fatalf("Long is %d of %d bytes", h.Long(), len(all))
			}
			for range from.Intn(3) {
				if !bytes.Equal(h.Sum(), want(all)) {
					t.Fatalf("the sum of %d bytes in pieces", len(all))
				}
			}
		}
		if !bytes.Equal(h.Sum(), digest.Sum(all)) {
			t.Fatal("the sum at the end")
		}
	}
}

func TestNothingWritten(t *testing.T) {
	var none *digest.Hasher
	var noughts digest.Hasher
	for name, h := range map[string]*digest.Hasher{"nil": none, "new": digest.New(), "noughts": &noughts} {
		for range 2 {
			if !bytes.Equal(h.Sum(), want(nil)) || h.Long() != 0 {
				t.Errorf("%s: the sum of nothing, or Long", name)
			}
			if h.Write(nil) != 0 || h.Write([]byte{}) != 0 {
				t.Errorf("%s: Write of nothing", name)
			}
		}
	}
	if none.Write([]byte("abc")) != 0 || none.Long() != 0 || !bytes.Equal(none.Sum(), want(nil)) {
		t.Error("nil: it takes bytes")
	}
	if noughts.Write([]byte("abc")) != 3 || noughts.Long() != 3 || !bytes.Equal(noughts.Sum(), want([]byte("abc"))) {
		t.Error("noughts: it is not as a new one")
	}
}
