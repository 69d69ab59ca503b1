package log_test

import (
	"slices"
	"strings"
	"testing"
	"unsafe"

	"heliast/api"
	"heliast/disk"
	"heliast/log"
)

// lent is a text that lies in bytes that can be written into.
func lent(b []byte) string {
	return unsafe.String(unsafe.SliceData(b), len(b))
}

// TestHandedIn: a record stays as it is, and what becomes of it later is not seen.
func TestHandedIn(t *testing.T) {
	for _, long := range []int{1, 2, 7, 64, 5000} {
		record := strings.Repeat("r", long)
		b := []byte(record)
		d := disk.New(2 * (8 + long))
		l := opened(t, d)
		puts(t, l, lent(b), api.OK)
		puts(t, l, lent(b), api.OK)
		if string(b) != record {
			t.Fatal("what was handed in was changed")
		}
		clear(b)
		opened(t, d, record, record)
	}
}

// TestHandedOut: records are their asker's alone, of one byte too.
func TestHandedOut(t *testing.T) {
	for _, long := range []int{1, 2, 7, 64, 5000} {
		record := strings.Repeat("r", long)
		d := disk.New(3 * (8 + long))
		for range 3 {
			d.Append("log", framed(record))
		}
		_, some, _ := log.Open(d)
		_, more, _ := log.Open(d)
		answers := slices.Concat(some, more)
		for i, answer := range answers {
			for _, other := range answers[:i] {
				if unsafe.StringData(answer) == unsafe.StringData(other) {
					t.Errorf("%d bytes: two answers share memory", long)
				}
			}
		}
		for _, behind := range some[:cap(some)][len(some):] {
			if behind != "" {
				t.Errorf("%d bytes: %.20q lies behind a list", long, behind)
			}
		}
		for _, answer := range answers[:3] {
			clear(unsafe.Slice(unsafe.StringData(answer), len(answer)))
		}
		some[0] = "x"
		if strings.Join(more, "") != record+record+record {
			t.Errorf("%d bytes: what is written into an answer is seen in another", long)
		}
		opened(t, d, record, record, record)
	}
}

// TestTwo: two logs on two disks know nothing of one another; what the disk of one
// is told by others is seen in its log.
func TestTwo(t *testing.T) {
	a, b := disk.New(1000), disk.New(1000)
	la, lb := opened(t, a), opened(t, b)
	for _, x := range []string{"1", "2", "3"} {
		puts(t, la, "a"+x, api.OK)
		puts(t, lb, "b"+x, api.OK)
	}
	a.Fuse(0)
	puts(t, la, "lost", api.ErrDead)
	puts(t, lb, "b4", api.OK)
	a.Crash(0)
	opened(t, a, "a1", "a2", "a3")
	opened(t, b, "b1", "b2", "b3", "b4")
	lb.Cut("log", 10)
	opened(t, b, "b1")
}
