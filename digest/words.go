package digest

const (
	ofBlock = 64 // bytes
	ofWord  = 4  // bytes
	rounds  = 64
)

// word is one of 32 bits; sums of words go round.
type word uint32

// cubes are the fractions of the cube roots of the first 64 primes.
var cubes = [rounds]word{
	0x428a2f98, 0x71374491, 0xb5c0fbcf, 0xe9b5dba5, 0x3956c25b, 0x59f111f1, 0x923f82a4, 0xab1c5ed5,
	0xd807aa98, 0x12835b01, 0x243185be, 0x550c7dc3, 0x72be5d74, 0x80deb1fe, 0x9bdc06a7, 0xc19bf174,
	0xe49b69c1, 0xefbe4786, 0x0fc19dc6, 0x240ca1cc, 0x2de92c6f, 0x4a7484aa, 0x5cb0a9dc, 0x76f988da,
	0x983e5152, 0xa831c66d, 0xb00327c8, 0xbf597fc7, 0xc6e00bf3, 0xd5a79147, 0x06ca6351, 0x14292967,
	0x27b70a85, 0x2e1b2138, 0x4d2c6dfc, 0x53380d13, 0x650a7354, 0x766a0abb, 0x81c2c92e, 0x92722c85,
	0xa2bfe8a1, 0xa81a664b, 0xc24b8b70, 0xc76c51a3, 0xd192e819, 0xd6990624, 0xf40e3585, 0x106aa070,
	0x19a4c116, 0x1e376c08, 0x2748774c, 0x34b0bcb5, 0x391c0cb3, 0x4ed8aa4a, 0x5b9cca4f, 0x682e6ff3,
	0x748f82ee, 0x78a5636f, 0x84c87814, 0x8cc70208, 0x90befffa, 0xa4506ceb, 0xbef9a3f7, 0xc67178f2,
}

// words are the eight of a sum.
type words [8]word

// start is a sum's words ahead of all blocks: the fractions of the square roots
// of the first eight primes.
func start() words {
	return words{0x6a09e667, 0xbb67ae85, 0x3c6ef372, 0xa54ff53a, 0x510e527f, 0x9b05688c, 0x1f83d9ab, 0x5be0cd19}
}

// add puts a block into a sum.
func (h *words) add(block []byte) {
	now := *h
	for t, w := range spread(block) {
		now.step(cubes[t] + w)
	}
	for i, x := range now {
		h[i] += x
	}
}

// step is one round: each word goes on to the next place, the last one into two
// others. The chapter calls them a to h.
func (h *words) step(x word) {
	a, b, c, e := h[0], h[1], h[2], h[4]
	t1 := h[7] + e.great1() + (e&h[5] ^ ^e&h[6]) + x
	t2 := a.great0() + (a&b ^ a&c ^ b&c)
	copy(h[1:], h[:7])
	h[4] += t1
	h[0] = t1 + t2
}

// bytes are those of the words, the greatest of each first.
func (h *words) bytes() []byte {
	out := make([]byte, 0, len(h)*ofWord)
	for _, x := range h {
		out = greatestFirst(out, uint64(x), ofWord)
	}
	return out
}

// spread makes of a block a word for each round.
func spread(block []byte) [rounds]word {
	var w [rounds]word
	for i, b := range block {
		w[i/ofWord] = w[i/ofWord]<<8 | word(b)
	}
	for t := ofBlock / ofWord; t < rounds; t++ {
		w[t] = w[t-2].small1() + w[t-7] + w[t-15].small0() + w[t-16]
	}
	return w
}

// turn turns a word right by n bits.
func (x word) turn(n int) word { return x>>n | x<<(32-n) }

func (x word) small0() word { return x.turn(7) ^ x.turn(18) ^ x>>3 }

func (x word) small1() word { return x.turn(17) ^ x.turn(19) ^ x>>10 }

func (x word) great0() word { return x.turn(2) ^ x.turn(13) ^ x.turn(22) }

func (x word) great1() word { return x.turn(6) ^ x.turn(11) ^ x.turn(25) }
