package digest

import "slices"

// Hasher sums a row of bytes that comes in pieces.
type Hasher struct {
	sum  words
	rest [ofBlock]byte // first in it those that are no whole block yet
	long uint64
}

// New is a Hasher to which nothing is written.
func New() *Hasher { return &Hasher{} }

// Write puts bytes behind those that were written.
func (h *Hasher) Write(b []byte) int {
	if h == nil {
		return 0
	}
	if h.long == 0 { // here, not in New: so a Hasher that is all noughts is a new one
		h.sum = start()
	}
	left := h.fill(b)
	h.long += uint64(len(b))
	for block := range slices.Chunk(left, ofBlock) {
		if len(block) < ofBlock {
			copy(h.rest[:], block)
			break
		}
		h.sum.add(block)
	}
	return len(b)
}

// fill takes of b what makes the bytes that are kept a whole block, as far as
// there is enough, and tells what is left; with no bytes kept that is b.
func (h *Hasher) fill(b []byte) []byte {
	kept := int(h.long % ofBlock)
	if kept == 0 {
		return b
	}
	n := copy(h.rest[kept:], b)
	if kept+n == ofBlock {
		h.sum.add(h.rest[:])
	}
	return b[n:]
}

// Sum is the sum of all that was written. The tail goes behind a second
// Hasher's bytes, so that more may be written to this one.
func (h *Hasher) Sum() []byte {
	var end Hasher
	if h != nil {
		end = *h
	}
	end.Write(Tail(end.long))
	return end.sum.bytes()
}

// Long is how many bytes were written.
func (h *Hasher) Long() uint64 {
	if h == nil {
		return 0
	}
	return h.long
}
