package log_test

import (
	"math"
	"slices"
	"strings"
	"testing"

	"heliast/api"
	"heliast/disk"
	"heliast/log"
)

// opened is the log of a disk that has to open, with these records.
func opened(t *testing.T, d *disk.Disk, want ...string) *log.Log {
	t.Helper()
	l, got, err := log.Open(d)
	if err != api.OK || l == nil || !slices.Equal(got, want) {
		t.Fatalf("Open: %.80q, error %d, want %.80q", got, err, want)
	}
	if l.Disk != d || l.Many() != len(want) {
		t.Fatalf("%d records, want %d, on the disk that was handed in", l.Many(), len(want))
	}
	return l
}

// falls opens a disk that has to fall.
func falls(t *testing.T, what string, d *disk.Disk, want api.Errno) {
	t.Helper()
	l, got, err := log.Open(d)
	if l != nil || len(got) != 0 || err != want {
		t.Errorf("%s: %v, %.80q, error %d, want %d alone", what, l, got, err, want)
	}
}

func puts(t *testing.T, l *log.Log, b string, want api.Errno) {
	t.Helper()
	many := l.Many()
	if want == api.OK {
		many++
	}
	if err := l.Put(b); err != want || l.Many() != many {
		t.Errorf("Put of %.40q: error %d, %d records, want %d, %d", b, err, l.Many(), want, many)
	}
}

func TestExample(t *testing.T) {
	d := disk.New(100)
	puts(t, opened(t, d), "ab", api.OK)
	opened(t, d, "ab")
}

// TestFile: frames, one a record, that last as soon as they were put.
func TestFile(t *testing.T) {
	d := disk.New(1000)
	l := opened(t, d)
	if d.Sync("log") != api.OK || d.Used() != 0 {
		t.Error("an empty log has no file, or bytes")
	}
	want := ""
	for _, b := range []string{"ab", "", "ab", "\x00\xff", strings.Repeat("x", 300)} {
		puts(t, l, b, api.OK)
		want += framed(b)
		if d.Lasting("log") != want || l.Read("log") != want || l.Used() != len(want) {
			t.Errorf("behind %.40q the file has %.80q, %.80q lasting", b, d.Read("log"), d.Lasting("log"))
		}
	}
	d.Crash(0)
	opened(t, d, "ab", "", "ab", "\x00\xff", strings.Repeat("x", 300))
}

// TestPublished: the file by its bytes, for the sum is a published one.
func TestPublished(t *testing.T) {
	d := disk.New(100)
	d.Append("log", "\x00\x00\x00\x00\x48\x67\x4b\xc7")
	opened(t, d, "")
	if sum := framed("")[4:]; sum != "\x48\x67\x4b\xc7" {
		t.Errorf("the sum of four noughts: %x", sum)
	}
}

// TestDead: told ahead of all else.
func TestDead(t *testing.T) {
	falls(t, "no disk", nil, api.ErrDead)
	for _, name := range []string{"log", "a"} {
		d := disk.New(100)
		d.Append(name, "torn")
		d.Fuse(0)
		d.Sync(name)
		falls(t, "a dead one", d, api.ErrDead)
	}
	full := disk.New(100)
	for _, name := range []string{"a", "b", "c", "d"} {
		full.Append(name, "x")
	}
	full.Fuse(0)
	full.Sync("a")
	falls(t, "a dead one with four files", full, api.ErrDead)
	d := disk.New(1 << 20)
	l := opened(t, d)
	d.Fuse(0)
	puts(t, l, "a", api.ErrDead)
	puts(t, l, "a", api.ErrDead)
	puts(t, l, strings.Repeat("a", 131073), api.ErrLong)
	d.Crash(0)
	puts(t, l, "a", api.OK)
	opened(t, d, "a")
}

// TestFourFiles: there is no room for the log's, unless it is one of them.
func TestFourFiles(t *testing.T) {
	d := disk.New(100)
	for _, name := range []string{"a", "b", "c"} {
		d.Append(name, "x")
	}
	three := d.Copy()
	d.Append("d", "")
	falls(t, "four files", d, api.ErrArg)
	if d.Sync("log") != api.ErrNone || d.Used() != 3 || d.Dead() {
		t.Error("a log that did not open changed its disk")
	}
	l := opened(t, three)
	puts(t, l, "x", api.OK)
	opened(t, three, "x")
	if three.Read("a")+three.Read("b")+three.Read("c") != "xxx" {
		t.Error("the log changed other files")
	}
}

// TestLong: to the byte; told ahead of a disk that is full, or dead.
func TestLong(t *testing.T) {
	d := disk.New(api.MaxDisk)
	l := opened(t, d)
	most := strings.Repeat("m", 131072)
	puts(t, l, most+"m", api.ErrLong)
	if d.Used() != 0 {
		t.Error("what was too long was written")
	}
	puts(t, l, most, api.OK)
	puts(t, l, strings.Repeat("m", 1<<20), api.ErrLong)
	puts(t, l, "", api.OK)
	opened(t, d, most, "")
	small := opened(t, disk.New(10))
	puts(t, small, most, api.ErrFull)
	puts(t, small, most+"m", api.ErrLong)
}

// TestFull: nothing is written; less may have room still.
func TestFull(t *testing.T) {
	d := disk.New(30)
	l := opened(t, d)
	puts(t, l, "0123456789", api.OK)
	d.Fuse(0)
	puts(t, l, "01234", api.ErrFull)
	if d.Dead() || d.Read("log") != framed("0123456789") {
		t.Errorf("the file has %q", d.Read("log"))
	}
	d.Fuse(math.MaxInt)
	puts(t, l, "0123", api.OK)
	puts(t, l, "", api.ErrFull)
	opened(t, d, "0123456789", "0123")
	none := &disk.Disk{}
	puts(t, opened(t, none), "", api.ErrFull)
	opened(t, none)
}

// TestTorn: what stands behind the records is cut off, and that lasts.
func TestTorn(t *testing.T) {
	for _, tail := range []string{"x", framed("ab")[:9], "\x00\x00\x00\x01" + framed("a")[4:8] + "b", "\x00\x02\x00\x01", "\xff\xff\xff\xff\xff\xff\xff\xff\xff", strings.Repeat("\x00", 8)} {
		for _, behind := range []string{"", framed("lost")} {
			d := disk.New(1000)
			l := opened(t, d)
			puts(t, l, "a", api.OK)
			d.Append("log", tail+behind)
			again := opened(t, d, "a")
			if d.Read("log") != framed("a") || d.Lasting("log") != framed("a") {
				t.Errorf("%q is left of the file", d.Read("log"))
			}
			puts(t, again, "b", api.OK)
			d.Crash(0)
			opened(t, d, "a", "b")
		}
	}
}

// TestTornLasts: that it was cut off lasts: Lasting tells no more of it.
func TestTornLasts(t *testing.T) {
	d := disk.New(1000)
	d.Append("log", framed("a")+framed("b"))
	d.Append("log", "torn")
	opened(t, d, "a", "b")
	if d.Lasting("log") != framed("a")+framed("b") {
		t.Errorf("%q lasts", d.Lasting("log"))
	}
}

// TestSteps: to open a log that is whole takes none, one that is torn two, and to
// put a record one for each byte, and one more.
func TestSteps(t *testing.T) {
	d := disk.New(1000)
	d.Fuse(0)
	l := opened(t, d)
	d.Fuse(len(framed("ab")) + 1)
	puts(t, l, "ab", api.OK)
	d.Fuse(0)
	opened(t, d, "ab")
	for n, err := range []api.Errno{api.ErrDead, api.ErrDead, api.OK} {
		torn := d.Copy()
		torn.Fuse(-1)
		torn.Append("log", "torn")
		torn.Fuse(n)
		if _, _, got := log.Open(torn); got != err || torn.Dead() != (err != api.OK) {
			t.Errorf("Open with %d steps: error %d, want %d", n, got, err)
		}
	}
	for n := range len(framed("cd")) + 1 {
		short := d.Copy()
		short.Fuse(-1)
		l := opened(t, short, "ab")
		short.Fuse(n)
		puts(t, l, "cd", api.ErrDead)
		if got, want := short.Lasting("log"), framed("ab"); got != want {
			t.Errorf("with %d steps %q lasts", n, got)
		}
	}
}

// TestMany: of Open, and of one's own calls alone.
func TestMany(t *testing.T) {
	d := disk.New(1000)
	l := opened(t, d)
	m := opened(t, d)
	puts(t, l, "a", api.OK)
	puts(t, l, "b", api.OK)
	if l.Many() != 2 || m.Many() != 0 {
		t.Errorf("%d and %d records, want 2 and 0", l.Many(), m.Many())
	}
	puts(t, m, "c", api.OK)
	if l.Many() != 2 || m.Many() != 1 {
		t.Errorf("%d and %d records, want 2 and 1", l.Many(), m.Many())
	}
	opened(t, d, "a", "b", "c")
}

// TestNil: a log that is none, and one without a disk.
func TestNil(t *testing.T) {
	var none *log.Log
	for _, l := range []*log.Log{none, {}, {Disk: nil}} {
		puts(t, l, "", api.ErrDead)
		puts(t, l, "a", api.ErrDead)
		if l.Many() != 0 {
			t.Errorf("%d records of none", l.Many())
		}
	}
	puts(t, none, strings.Repeat("a", 131073), api.ErrDead)
}
