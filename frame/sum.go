package frame

// castagnoli is the polynomial of CRC-32C, its bits turned round.
const castagnoli = 0x82f63b78

// table is, for each byte, what eight halvings make of it.
type table [256]uint32

// halving tells at each call what one halving more makes of 1.
func halving() func() uint32 {
	s := uint32(1)
	return func() uint32 {
		odd := s&1 == 1
		s /= 2
		if odd {
			s ^= castagnoli
		}
		return s
	}
}

// newTable is cheap, so that a call may make one of its own: halving goes through
// xor, so a byte's entry is that of its lowest bit xor that of its other ones, and
// a bit's entry is one halving more than that of the bit above it.
func newTable() *table {
	var t table
	next := halving()
	for bit := len(t) / 2; bit > 0; bit /= 2 {
		entry := next()
		for above := 0; above < len(t); above += 2 * bit {
			t[above+bit] = t[above] ^ entry
		}
	}
	return &t
}

// sum is that of the rows, one behind the other.
func (t *table) sum(rows ...string) uint32 {
	s := ^uint32(0)
	for _, row := range rows {
		for i := 0; i < len(row); i++ {
			s = s>>8 ^ t[byte(s)^row[i]]
		}
	}
	return ^s
}
