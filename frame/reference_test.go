package frame_test

import (
	"encoding/binary"
	"fmt"
	"slices"
	"testing"

	"heliast/frame"
)

// sumOf is Sum as the chapter says it, bit by bit.
func sumOf(b string) uint32 {
	s := uint32(1<<32 - 1)
	for i := range len(b) {
		s ^= uint32(b[i])
		for range 8 {
			half := s / 2
			if s%2 == 1 {
				half ^= 0x82f63b78
			}
			s = half
		}
	}
	return s ^ (1<<32 - 1)
}

func frameOf(b string) string {
	if len(b) > 131072 {
		return ""
	}
	long := string(binary.BigEndian.AppendUint32(nil, uint32(len(b))))
	return long + string(binary.BigEndian.AppendUint32(nil, sumOf(long+b))) + b
}

// nextOf tries each row that might be the one: none but that of the length told.
func nextOf(s string) (string, int) {
	for end := 8; end <= min(len(s), 8+131072); end++ {
		if binary.BigEndian.Uint32([]byte(s)) == uint32(end-8) && frameOf(s[8:end]) == s[:end] {
			return s[8:end], end
		}
	}
	return "", 0
}

func allOf(s string) ([]string, int) {
	b, n := nextOf(s)
	if n == 0 {
		return nil, 0
	}
	behind, m := allOf(s[n:])
	return append([]string{b}, behind...), n + m
}

// hold holds all that is told of a row against the chapter.
func hold(t *testing.T, s string) {
	t.Helper()
	if got, want := frame.Sum(s), sumOf(s); got != want {
		t.Errorf("Sum of %.80q: %08x, want %08x", s, got, want)
	}
	if got, want := frame.Frame(s), frameOf(s); got != want {
		t.Errorf("Frame of %.80q: %.80q, want %.80q", s, got, want)
	}
	b, n := frame.Next(s)
	if wantB, wantN := nextOf(s); b != wantB || n != wantN {
		t.Errorf("Next of %.80q: %.80q, %d, want %.80q, %d", s, b, n, wantB, wantN)
	}
	all, n := frame.All(s)
	if want, wantN := allOf(s); !slices.Equal(all, want) || n != wantN {
		t.Errorf("All of %.80q: %s, %d, want %s, %d", s, told(all), n, told(want), wantN)
	}
}

func told(rows []string) string {
	if len(rows) > 10 {
		return fmt.Sprint(len(rows), " rows")
	}
	return fmt.Sprintf("%.80q", rows)
}
