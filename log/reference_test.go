package log_test

import (
	"encoding/binary"
	"fmt"
	"hash/crc32"
	"math/rand"
	"slices"
	"testing"

	"heliast/api"
	"heliast/disk"
	"heliast/log"
)

// framed is a record as it stands in the file.
func framed(b string) string {
	long := binary.BigEndian.AppendUint32(nil, uint32(len(b)))
	sum := crc32.Checksum(append(slices.Clone(long), b...), crc32.MakeTable(crc32.Castagnoli))
	return string(binary.BigEndian.AppendUint32(long, sum)) + b
}

// recordsOf are the records at the front of a file, and how many bytes they have.
func recordsOf(s string) (out []string, took int) {
	for len(s)-took >= 8 {
		long := binary.BigEndian.Uint32([]byte(s[took:]))
		if long > 131072 || uint64(took)+8+uint64(long) > uint64(len(s)) {
			break
		}
		b := s[took+8 : took+8+int(long)]
		if framed(b) != s[took:took+8+int(long)] {
			break
		}
		out, took = append(out, b), took+8+int(long)
	}
	return out, took
}

// openOf is Open as the chapter says it, without the log.
func openOf(d *disk.Disk) ([]string, api.Errno) {
	if d == nil || d.Dead() {
		return nil, api.ErrDead
	}
	if err := d.Append("log", ""); err != api.OK {
		return nil, err
	}
	records, took := recordsOf(d.Read("log"))
	if took < len(d.Read("log")) {
		if err := d.Cut("log", took); err != api.OK {
			return nil, err
		}
		if err := d.Sync("log"); err != api.OK {
			return nil, err
		}
	}
	return records, api.OK
}

// putOf is Put as the chapter says it.
func putOf(d *disk.Disk, b string) api.Errno {
	if len(b) > 131072 {
		return api.ErrLong
	}
	if err := d.Append("log", framed(b)); err != api.OK {
		return err
	}
	return d.Sync("log")
}

// same holds two disks against one another.
func same(t *testing.T, what string, got, want *disk.Disk) {
	t.Helper()
	for _, name := range []string{"log", "a", "b", "z"} {
		if got.Read(name) != want.Read(name) || got.Lasting(name) != want.Lasting(name) {
			t.Errorf("%s: %s has %.80q, %.80q lasting, want %.80q, %.80q", what, name, got.Read(name), got.Lasting(name), want.Read(name), want.Lasting(name))
		}
	}
	if got.Dead() != want.Dead() || got.Used() != want.Used() {
		t.Errorf("%s: dead %v, %d bytes, want %v, %d", what, got.Dead(), got.Used(), want.Dead(), want.Used())
	}
}

// holdOpen opens a disk, and a copy of it as the chapter says it.
func holdOpen(t *testing.T, what string, d *disk.Disk) *log.Log {
	t.Helper()
	c := d.Copy()
	want, wantErr := openOf(c)
	l, got, err := log.Open(d)
	if err != wantErr || !slices.Equal(got, want) {
		t.Fatalf("Open, %s: %.80q, error %d, want %.80q, error %d", what, got, err, want, wantErr)
	}
	switch {
	case err != api.OK && l != nil:
		t.Fatalf("Open, %s: a log beside error %d", what, err)
	case err == api.OK && (l == nil || l.Disk != d || l.Many() != len(want)):
		t.Fatalf("Open, %s: not the log of its disk with %d records", what, len(want))
	}
	same(t, "Open, "+what, d, c)
	return l
}

// drawnDisk has files in which frames stand, whole, cut short, changed, synced or not.
func drawnDisk(r *rand.Rand) *disk.Disk {
	d := disk.New(r.Intn(120))
	for range r.Intn(6) {
		name := []string{"log", "log", "log", "a", "b", "z"}[r.Intn(6)]
		piece := []byte(framed("abcde"[:r.Intn(6)]))
		switch r.Intn(4) {
		case 0:
			piece = piece[:r.Intn(len(piece))]
		case 1:
			piece[r.Intn(len(piece))] ^= 1 << r.Intn(8)
		}
		d.Append(name, string(piece))
		if r.Intn(2) == 0 {
			d.Sync(name)
		}
	}
	return d
}

// TestDrawn does calls of a log, and of its disk, one by one, and the same ones as
// the chapter says them.
func TestDrawn(t *testing.T) {
	r := rand.New(rand.NewSource(11))
	for range 30000 {
		d := drawnDisk(r)
		if r.Intn(3) == 0 {
			d.Fuse(r.Intn(4))
		}
		l := holdOpen(t, "drawn", d)
		want := l.Many()
		for range r.Intn(8) {
			c := d.Copy()
			switch r.Intn(6) {
			case 0:
				n := r.Intn(30)
				d.Fuse(n)
			case 1:
				d.Crash(r.Intn(20))
				l = holdOpen(t, "behind a crash", d)
				want = l.Many()
			case 2:
				d.Append([]string{"a", "b", "z"}[r.Intn(3)], "xyz"[:r.Intn(4)])
			default:
				if l == nil {
					break
				}
				b := "abcde"[:r.Intn(6)]
				wantErr := putOf(c, b)
				if err := l.Put(b); err != wantErr {
					t.Fatalf("Put: error %d, want %d", err, wantErr)
				}
				if wantErr == api.OK {
					want++
				}
				same(t, "Put", d, c)
			}
			if l.Many() != want {
				t.Fatalf("%d records, want %d", l.Many(), want)
			}
		}
	}
}

// TestPower lets the power go at each step of putting some records, with each
// number of bytes kept, and again at each step of opening what is left: those
// that were told OK are there, of the next one all or nothing.
func TestPower(t *testing.T) {
	for _, records := range [][]string{{"ab"}, {"", ""}, {"a", "", "bcd", "ef"}, {framed("a"), "b", framed("") + "c"}} {
		whole := disk.New(1000)
		for _, b := range records {
			putOf(whole, b)
		}
		for n := range whole.Used() + len(records) + 1 {
			d := disk.New(1000)
			l := holdOpen(t, "empty", d)
			d.Fuse(n)
			told := 0
			for told < len(records) && l.Put(records[told]) == api.OK {
				told++
			}
			if l.Many() != told || d.Dead() == (told == len(records)) {
				t.Fatalf("%d steps: %d told, %d counted, dead %v", n, told, l.Many(), d.Dead())
			}
			for keep := range 40 {
				lost := d.Copy()
				lost.Crash(keep)
				for fuse := range 3 {
					again := lost.Copy()
					again.Fuse(fuse)
					if holdOpen(t, fmt.Sprint("by a fuse of ", fuse), again) == nil {
						again.Crash(fuse * 7)
					}
					holdTold(t, again, records, told)
				}
			}
		}
	}
}

// holdTold holds a disk's records: those told, and maybe the next one; more can be put.
func holdTold(t *testing.T, d *disk.Disk, records []string, told int) {
	t.Helper()
	d.Fuse(-1)
	l, got, err := log.Open(d)
	if err != api.OK || len(got) < told || len(got) > min(told+1, len(records)) || !slices.Equal(got, records[:len(got)]) {
		t.Fatalf("%.80q, error %d, %d of %.80q were told", got, err, told, records)
	}
	if err := l.Put("more"); err != api.OK {
		t.Fatalf("Put behind a crash: error %d", err)
	}
	d.Crash(0)
	_, again, err := log.Open(d)
	if err != api.OK || !slices.Equal(again, append(got, "more")) {
		t.Fatalf("%.80q, error %d, want %.80q and one more", again, err, got)
	}
}

// TestEveryCut opens each file that is the front of some frames, or has one bit
// changed, or bytes behind them.
func TestEveryCut(t *testing.T) {
	whole := framed("ab") + framed("") + framed("c\x00\xff") + framed(framed("d"))
	for n := range len(whole) + 1 {
		files := []string{whole[:n], whole[n:], whole + whole[:n]}
		if n < len(whole) {
			for bit := range 8 {
				changed := []byte(whole)
				changed[n] ^= 1 << bit
				files = append(files, string(changed))
			}
		}
		for _, s := range files {
			for synced := range 2 {
				d := disk.New(1000)
				d.Append("log", s)
				if synced == 1 {
					d.Sync("log")
				}
				d.Append("a", "x")
				holdOpen(t, fmt.Sprintf("%.80q", s), d)
			}
		}
	}
}
