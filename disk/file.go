package disk

import "strings"

// file is bytes, of which a front lasts. What changes it asks ahead of each step
// whether that is done.
type file struct {
	all  []byte
	last int // how many of them last
}

// put puts bytes behind, one a step; false: one was not done.
func (f *file) put(b string, step func() bool) bool {
	for i := range len(b) {
		if !step() {
			return false
		}
		f.all = append(f.all, b[i])
	}
	return true
}

// sync lets all bytes last; false: that was not done.
func (f *file) sync(step func() bool) bool {
	if !step() {
		return false
	}
	f.last = len(f.all)
	return true
}

// cut leaves the first bytes alone; false: that was not done.
func (f *file) cut(n int, step func() bool) bool {
	if !step() {
		return false
	}
	f.leave(n)
	return true
}

// crash leaves what lasts, and of the other bytes at most so many, which last
// then; it tells how many these are.
func (f *file) crash(most int) int {
	kept := min(most, len(f.all)-f.last)
	f.leave(f.last + kept)
	f.last = len(f.all)
	return kept
}

// leave leaves the first bytes in new memory, so that those which are gone are
// not kept alive behind them.
func (f *file) leave(n int) {
	f.all = fresh(f.all[:n])
	f.last = min(f.last, n)
}

// front is what lasts.
func (f *file) front() []byte {
	return f.all[:f.last]
}

// copied is the same file in new memory.
func (f *file) copied() file {
	return file{fresh(f.all), f.last}
}

// fresh is bytes in new memory; of no bytes it holds on to none.
func fresh(b []byte) []byte {
	return append([]byte(nil), b...)
}

// text is bytes as a text. It goes by a Builder, as a conversion of one byte
// alone is no new memory: all texts of that byte share it.
func text(b []byte) string {
	var out strings.Builder
	out.Write(b)
	return out.String()
}
