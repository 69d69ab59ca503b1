package frame_test

import (
	"hash/crc32"
	"math/rand"
	"strings"
	"testing"

	"heliast/frame"
)

const most = 131072

func TestExample(t *testing.T) {
	if got := frame.Sum("123456789"); got != 0xe3069283 {
		t.Errorf("%08x", got)
	}
}

// TestPublished: the sums of RFC 3720's own examples, and what its polynomial
// gives in another writing of it.
func TestPublished(t *testing.T) {
	var rise, fall strings.Builder
	for i := range 32 {
		rise.WriteByte(byte(i))
		fall.WriteByte(byte(31 - i))
	}
	for row, want := range map[string]uint32{
		"": 0, "a": 0xc1d04330,
		strings.Repeat("\x00", 32): 0x8a9136aa, strings.Repeat("\xff", 32): 0x62a8ab43, rise.String(): 0x46dd794e, fall.String(): 0x113fdb5c,
	} {
		if got := frame.Sum(row); got != want {
			t.Errorf("Sum of %q: %08x, want %08x", row, got, want)
		}
	}
	table := crc32.MakeTable(crc32.Castagnoli)
	draw := rand.New(rand.NewSource(10))
	for _, long := range []int{1, 2, 3, 4, 5, 63, 64, 65, 1000, most, most + 1, 1 << 20} {
		b := make([]byte, long)
		draw.Read(b)
		if got, want := frame.Sum(string(b)), crc32.Checksum(b, table); got != want {
			t.Errorf("Sum of %d bytes: %08x, want %08x", long, got, want)
		}
	}
}

// TestSumOfAllSmall: of each row of one or two bytes.
func TestSumOfAllSmall(t *testing.T) {
	for a := range 256 {
		for b := range 256 {
			s := string([]byte{byte(a), byte(b)})
			if frame.Sum(s) != sumOf(s) {
				t.Fatalf("Sum of %q", s)
			}
		}
		s := string([]byte{byte(a)})
		hold(t, s)
		hold(t, frame.Frame(s))
	}
}

// TestLength: to the byte, with nothing behind that.
func TestLength(t *testing.T) {
	for _, long := range []int{0, 1, 255, 256, 257, 65535, 65536, 65537, most - 1, most} {
		b := strings.Repeat("\xa5", long)
		f := frame.Frame(b)
		if f != frameOf(b) || len(f) != long+8 {
			t.Fatalf("Frame of %d bytes has %d", long, len(f))
		}
		for _, behind := range []string{"", "\x00", f} {
			if got, n := frame.Next(f + behind); got != b || n != long+8 {
				t.Errorf("Next of a frame of %d bytes: %d, %d", long, len(got), n)
			}
		}
	}
	for _, long := range []int{most + 1, most + 2, 2 * most, 1 << 20} {
		if frame.Frame(strings.Repeat("x", long)) != "" {
			t.Errorf("there is a Frame of %d bytes", long)
		}
	}
}

// TestTooLong: of what tells more than may be, or than there is, none is taken,
// its sum right or not.
func TestTooLong(t *testing.T) {
	for _, long := range []uint32{most + 1, 1 << 18, 1 << 24, 1<<31 - 1, 1 << 31, 1<<32 - 8, 1<<32 - 1} {
		head := string([]byte{byte(long >> 24), byte(long >> 16), byte(long >> 8), byte(long)})
		for _, there := range []int{0, 1, most, most + 1, 1 << 18} {
			b := strings.Repeat("x", there)
			sum := frame.Sum(head + b)
			s := head + string([]byte{byte(sum >> 24), byte(sum >> 16), byte(sum >> 8), byte(sum)}) + b
			if got, n := frame.Next(s); got != "" || n != 0 {
				t.Errorf("%d bytes, of which %d are there: %d, %d", long, there, len(got), n)
			}
			if all, n := frame.All(s); all != nil || n != 0 {
				t.Errorf("All of %d bytes, of which %d are there: %d, %d", long, there, len(all), n)
			}
		}
	}
}

func TestNone(t *testing.T) {
	for _, s := range []string{"", "\x00", "\x00\x00\x00\x00", "\x00\x00\x00\x00\x00\x00\x00", strings.Repeat("\x00", 8), strings.Repeat("\xff", 8), strings.Repeat("\x00", 100), "a frame, as anybody may say"} {
		hold(t, s)
		if got, n := frame.Next(s); got != "" || n != 0 {
			t.Errorf("Next of %q: %q, %d", s, got, n)
		}
	}
	// A row of no bytes has a frame all the same: that is none of no frame.
	if got, n := frame.Next(frame.Frame("") + "x"); got != "" || n != 8 {
		t.Errorf("Next of an empty row's frame: %q, %d", got, n)
	}
}

// TestCutOrChanged: a frame with fewer bytes, one that lost its front, and one with
// a byte changed in whatever way, is none.
func TestCutOrChanged(t *testing.T) {
	for _, b := range []string{"", "a", "\x00", "ab\x00", "\x00\x00\x00\x00\x00\x00\x00\x00", "some more of it, \xff\xfe"} {
		f := frame.Frame(b)
		for n := range len(f) {
			hold(t, f[:n])
			hold(t, f[n:])
			if got, took := frame.Next(f[:n]); got != "" || took != 0 {
				t.Errorf("%q, %d bytes of it: %q, %d", b, n, got, took)
			}
			for by := 1; by < 256; by++ {
				changed := []byte(f)
				changed[n] ^= byte(by)
				if got, took := frame.Next(string(changed)); got != "" || took != 0 {
					t.Errorf("%q, byte %d changed by %02x: %q, %d", b, n, by, got, took)
				}
			}
			// Fewer bytes of it, and others behind, are no frame either.
			if got, took := frame.Next(f[:n] + strings.Repeat("\xa7", 40)); got != "" || took != 0 {
				t.Errorf("%q, %d bytes of it and others: %q, %d", b, n, got, took)
			}
		}
	}
}

// TestAll: those at the front, in their order; whatever comes behind one that is
// none is not looked at.
func TestAll(t *testing.T) {
	a, none, b := frame.Frame("a"), frame.Frame(""), frame.Frame("bcd")
	for _, s := range []string{
		a, none, a + b, none + none + none, a + none + b + "x", "x" + a, a + "x" + b, a + b[:len(b)-1] + a, b[:len(b)-1] + a, a + "\x00" + b,
		a + none[:7], a + none[:7] + "x", a + a + a + a,
	} {
		hold(t, s)
	}
	got, n := frame.All(a + none + b + "x" + a)
	if len(got) != 3 || got[0] != "a" || got[1] != "" || got[2] != "bcd" || n != 9+8+11 {
		t.Errorf("%q, %d", got, n)
	}
}

// TestAllOfMany: a frame is looked at once, whatever stands ahead of it.
func TestAllOfMany(t *testing.T) {
	const times = 200000
	for _, row := range []string{"", "x", "a row"} {
		got, n := frame.All(strings.Repeat(frame.Frame(row), times) + "x")
		if len(got) != times || n != times*(8+len(row)) || got[0] != row || got[times-1] != row {
			t.Errorf("%d rows of %q, %d", len(got), row, n)
		}
	}
}

// TestDrawn draws rows of frames, whole, cut and changed ones.
func TestDrawn(t *testing.T) {
	draw := rand.New(rand.NewSource(10))
	for range 20000 {
		var s strings.Builder
		for range draw.Intn(5) {
			b := make([]byte, draw.Intn(12))
			draw.Read(b)
			f := []byte(frame.Frame(string(b)))
			switch draw.Intn(8) {
			case 0:
				f = f[:draw.Intn(len(f))]
			case 1:
				f[draw.Intn(len(f))] ^= 1 << draw.Intn(8)
			case 2:
				f = append(f, byte(draw.Intn(3)))
			}
			s.Write(f)
		}
		hold(t, s.String())
	}
}
