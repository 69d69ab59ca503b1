package digest

import (
	"math/big"
	"math/bits"
	"math/rand"
	"testing"
)

// primes are the first n of them.
func primes(n int) []int64 {
	var out []int64
	for p := int64(2); len(out) < n; p++ {
		if big.NewInt(p).ProbablyPrime(0) {
			out = append(out, p)
		}
	}
	return out
}

// isFraction holds a word against a prime's root of that power: with the whole
// number ahead of it, it is the greatest whose power is no more than the prime,
// each of them with 32 bits behind the point.
func isFraction(x word, prime, power int64) bool {
	bound := new(big.Int).Lsh(big.NewInt(prime), uint(32*power))
	raised := func(root int64) *big.Int {
		return new(big.Int).Exp(big.NewInt(root), big.NewInt(power), nil)
	}
	for whole := int64(1); whole <= prime; whole++ {
		root := whole<<32 | int64(x)
		if raised(root).Cmp(bound) <= 0 && raised(root+1).Cmp(bound) > 0 {
			return true
		}
	}
	return false
}

func TestFractions(t *testing.T) {
	all := primes(rounds)
	if all[63] != 311 {
		t.Fatal("the test's own primes")
	}
	for i, p := range all {
		if !isFraction(cubes[i], p, 3) {
			t.Errorf("%08x is not of %d's cube root", cubes[i], p)
		}
		if isFraction(cubes[i]+1, p, 3) || isFraction(cubes[i]-1, p, 3) {
			t.Fatal("the test takes what is beside it")
		}
	}
	for i, x := range start() {
		if !isFraction(x, all[i], 2) {
			t.Errorf("%08x is not of %d's square root", x, all[i])
		}
	}
	if cubes[0] != 0x428a2f98 || cubes[63] != 0xc67178f2 {
		t.Error("the fractions that the chapter names")
	}
}

func TestTurns(t *testing.T) {
	from := rand.New(rand.NewSource(1))
	for range 1000 {
		x := from.Uint32()
		right := func(n int) word { return word(bits.RotateLeft32(x, -n)) }
		w := word(x)
		for n := range 33 {
			if w.turn(n) != right(n) {
				t.Fatalf("%08x, turned by %d: %08x", x, n, w.turn(n))
			}
		}
		if w.small0() != right(7)^right(18)^w>>3 || w.small1() != right(17)^right(19)^w>>10 {
			t.Fatalf("s0, s1 of %08x", x)
		}
		if w.great0() != right(2)^right(13)^right(22) || w.great1() != right(6)^right(11)^right(25) {
			t.Fatalf("S0, S1 of %08x", x)
		}
	}
}

// TestKept: the bytes that make no whole block yet stand first in what is kept.
func TestKept(t *testing.T) {
	h := New()
	for i := range 300 {
		h.Write([]byte{byte(i)})
		for j := range (i + 1) % ofBlock {
			if h.rest[j] != byte((i+1)/ofBlock*ofBlock+j) {
				t.Fatalf("byte %d of what is kept of %d", j, i+1)
			}
		}
	}
}

// TestLongRow: a row whose bits are more than 32 bits count has them all in its
// tail. (What lies ahead of the tail is put there by hand.)
func TestLongRow(t *testing.T) {
	for _, long := range []uint64{1<<29 - 64, 1 << 29, 1<<31 - 64, 1 << 32, 1 << 61, 1<<64 - 64} {
		h := &Hasher{sum: start(), long: long}
		want := start()
		tail := make([]byte, ofBlock)
		tail[0] = 0x80
		new(big.Int).SetUint64(long << 3).FillBytes(tail[56:])
		want.add(tail)
		if string(h.Sum()) != string(want.bytes()) || h.Long() != long {
			t.Errorf("the sum of a row of %d bytes", long)
		}
	}
}
