package seal

import (
	"slices"
	"strings"
)

// signs are those of 0 to 63.
const signs = "ABCDEFGHIJKLMNOPQRSTUVWXYZabcdefghijklmnopqrstuvwxyz0123456789-_"

// A group is three bytes, or four signs: both have the same bits.
const (
	ofByte        = 8  // bits
	ofSign        = 6  // bits
	ofGroup       = 24 // bits
	bytesTogether = ofGroup / ofByte
	signsTogether = ofGroup / ofSign
)

// Text is bytes as signs.
func Text(b []byte) string {
	var out strings.Builder
	out.Grow((len(b)*signsTogether + bytesTogether - 1) / bytesTogether)
	for group := range slices.Chunk(b, bytesTogether) {
		bits := together(group, ofByte)
		for i := range len(group) + 1 {
			out.WriteByte(signs[piece(bits, i, ofSign)])
		}
	}
	return out.String()
}

// Bytes is the way back; false: the text is that of no bytes.
func Bytes(s string) ([]byte, bool) {
	numbers, ok := numbersOf(s)
	if !ok {
		return nil, false
	}
	out := make([]byte, 0, len(numbers)*bytesTogether/signsTogether)
	for group := range slices.Chunk(numbers, signsTogether) {
		bits := together(group, ofSign)
		n := len(group) - 1
		// One sign alone has less bits than a byte; and bits behind the last
		// byte that are not 0 would make a second text of the same bytes.
		if n == 0 || bits<<(n*ofByte)%(1<<ofGroup) != 0 {
			return nil, false
		}
		for i := range n {
			out = append(out, byte(piece(bits, i, ofByte)))
		}
	}
	return out, true
}

// numbersOf are the numbers of a text's signs; false: one of them is none.
func numbersOf(s string) ([]byte, bool) {
	out := make([]byte, 0, len(s))
	for _, sign := range s {
		n := strings.IndexRune(signs, sign)
		if n < 0 {
			return nil, false
		}
		out = append(out, byte(n))
	}
	return out, true
}

// together lays a group's numbers, of so many bits each, behind one another,
// with bits 0 where the group is not whole.
func together(group []byte, width int) uint32 {
	var bits uint32
	for i, n := range group {
		bits |= uint32(n) << (ofGroup - width*(i+1))
	}
	return bits
}

// piece is the number, of so many bits, at a place of a group's bits.
func piece(bits uint32, at, width int) uint32 {
	return bits >> (ofGroup - width*(at+1)) % (1 << width)
}
