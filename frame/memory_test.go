package frame_test

import (
	"bytes"
	"strings"
	"testing"
	"unsafe"

	"heliast/frame"
)

// lent is a text that lies in bytes that can be written into.
func lent(b []byte) string {
	return unsafe.String(unsafe.SliceData(b), len(b))
}

// TestHandedIn: it stays as it is, and what becomes of it later is not seen in
// what was told of it.
func TestHandedIn(t *testing.T) {
	for _, long := range []int{1, 2, 7, 64, 5000} {
		row := strings.Repeat("r", long)
		b := bytes.Repeat([]byte("r"), long)
		f := frame.Frame(lent(b))
		frame.Sum(lent(b))
		s := []byte(f + f)
		next, _ := frame.Next(lent(s))
		all, _ := frame.All(lent(s))
		if string(b) != row || string(s) != f+f {
			t.Fatal("what was handed in was changed")
		}
		clear(b)
		clear(s)
		if f != frame.Frame(row) || next != row || len(all) != 2 || all[0] != row || all[1] != row {
			t.Errorf("%d bytes: what was handed in is kept", long)
		}
	}
}

// TestHandedOut: an answer is its asker's alone, of one byte too.
func TestHandedOut(t *testing.T) {
	for _, long := range []int{1, 2, 7, 64, 5000} {
		row := strings.Repeat("r", long)
		f, g := frame.Frame(row), frame.Frame(row)
		first, _ := frame.Next(f)
		second, _ := frame.Next(f)
		some, _ := frame.All(f + f)
		more, _ := frame.All(f + f)
		answers := []string{f, g, first, second, some[0], some[1], more[0], more[1]}
		for i, answer := range answers {
			for _, other := range answers[:i] {
				if unsafe.StringData(answer) == unsafe.StringData(other) {
					t.Errorf("%d bytes: two answers share memory", long)
				}
			}
		}
		for _, texts := range [][]string{some, more} {
			for _, behind := range texts[len(texts):cap(texts)] {
				if behind != "" {
					t.Errorf("%d bytes: %.20q lies behind a list", long, behind)
				}
			}
		}
		for _, answer := range answers[2:] {
			clear(unsafe.Slice(unsafe.StringData(answer), len(answer)))
		}
		some[0], some[1] = "x", "y"
		hold(t, f+g)
		if more[0] != strings.Repeat("\x00", long) || frame.Frame(row) != f {
			t.Errorf("%d bytes: what is written into an answer is seen elsewhere", long)
		}
	}
}
