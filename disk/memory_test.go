package disk_test

import (
	"bytes"
	"strings"
	"testing"
	"unsafe"

	"heliast/api"
	"heliast/disk"
)

// lent is a text that lies in bytes that can be written into.
func lent(b []byte) string {
	return unsafe.String(unsafe.SliceData(b), len(b))
}

// TestHandedIn: neither the name nor the bytes are changed, and what becomes of
// their memory later is not seen.
func TestHandedIn(t *testing.T) {
	for _, long := range []int{1, 2, 7, 64, 5000} {
		name, b := bytes.Repeat([]byte("n"), long), bytes.Repeat([]byte("b"), long)
		wantName, want := string(name), string(b)
		d := disk.New(3 * long)
		if d.Append(lent(name), lent(b)) != api.OK || d.Sync(lent(name)) != api.OK || d.Append(lent(name), lent(b)) != api.OK {
			t.Fatal("calls that have to do")
		}
		c := d.Copy()
		if string(name) != wantName || string(b) != want {
			t.Fatal("what was handed in was changed")
		}
		clear(name)
		clear(b)
		for _, x := range []*disk.Disk{d, c} {
			has(t, x, wantName, want+want, want)
			has(t, x, lent(name), "", "")
			wrong(t, "a name that was written over", x.Sync(lent(name)), api.ErrNone)
			x.Crash(1)
			has(t, x, wantName, want+"b", want+"b")
		}
	}
}

// TestHandedOut: an answer is its asker's alone, of one byte too.
func TestHandedOut(t *testing.T) {
	for _, long := range []int{1, 2, 7, 64, 5000} {
		text := strings.Repeat("b", long)
		d := disk.New(long)
		done(t, d, put("f", text), sync("f"))
		c := d.Copy()
		answers := []string{d.Read("f"), d.Read("f"), d.Lasting("f"), d.Lasting("f"), c.Read("f"), c.Lasting("f")}
		for i, answer := range answers {
			for _, other := range answers[:i] {
				if unsafe.StringData(answer) == unsafe.StringData(other) {
					t.Errorf("%d bytes: two answers share memory", long)
				}
			}
			clear(unsafe.Slice(unsafe.StringData(answer), len(answer)))
			has(t, d, "f", text, text)
			has(t, c, "f", text, text)
		}
	}
}

// TestTwo: two disks know nothing of one another, nor do two files of one.
func TestTwo(t *testing.T) {
	a, b := disk.New(50), disk.New(50)
	var ofA, ofB, other string
	for range 20 {
		done(t, a, put("f", "a"), put("g", "g"))
		done(t, b, put("f", "b"), sync("f"))
		ofA, other, ofB = ofA+"a", other+"g", ofB+"b"
		has(t, a, "f", ofA, "")
		has(t, a, "g", other, "")
		has(t, b, "f", ofB, ofB)
		has(t, b, "g", "", "")
	}
	a.Fuse(0)
	wrong(t, "a", a.Sync("f"), api.ErrDead)
	if b.Dead() || b.Sync("f") != api.OK {
		t.Error("the power of one is the other one's")
	}
}
