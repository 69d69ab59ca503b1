package disk_test

import (
	"fmt"
	"math"
	"math/rand"
	"slices"
	"strings"
	"testing"

	"heliast/api"
	"heliast/disk"
)

// done does calls of which each has to tell OK.
func done(t *testing.T, d *disk.Disk, calls ...call) {
	t.Helper()
	for _, c := range calls {
		if err := c.on(d); err != api.OK {
			t.Fatalf("%v: error %d", c, err)
		}
	}
}

func put(name, b string) call     { return call{kind: "append", name: name, b: b} }
func sync(name string) call       { return call{kind: "sync", name: name} }
func cut(name string, n int) call { return call{kind: "cut", name: name, n: n} }
func fuse(n int) call             { return call{kind: "fuse", n: n} }
func crash(n int) call            { return call{kind: "crash", n: n} }

// has holds what a file has, and what lasts of it.
func has(t *testing.T, d *disk.Disk, name, all, last string) {
	t.Helper()
	if d.Read(name) != all || d.Lasting(name) != last {
		t.Errorf("%.80q has %.80q, %.80q lasting, want %.80q, %.80q", name, d.Read(name), d.Lasting(name), all, last)
	}
}

func wrong(t *testing.T, what string, got, want api.Errno) {
	t.Helper()
	if got != want {
		t.Errorf("%s: error %d, want %d", what, got, want)
	}
}

func TestExample(t *testing.T) {
	d := disk.New(10)
	done(t, d, put("f", "ab"), sync("f"), put("f", "cd"), crash(1))
	has(t, d, "f", "abc", "abc")
}

// TestRoom: to the byte, counted over all files; what falls makes no file.
func TestRoom(t *testing.T) {
	for _, room := range []struct{ asked, is int }{
		{math.MinInt, 0}, {-1, 0}, {0, 0}, {1, 1}, {7, 7}, {4194303, 4194303}, {4194304, 4194304}, {4194305, 4194304}, {math.MaxInt, 4194304},
	} {
		d := disk.New(room.asked)
		wrong(t, "too many at once", d.Append("f", strings.Repeat("x", room.is+1)), api.ErrFull)
		wrong(t, "a file that fell", d.Sync("f"), api.ErrNone)
		wrong(t, "all of the room", d.Append("f", strings.Repeat("x", room.is)), api.OK)
		wrong(t, "one byte more", d.Append("f", "y"), api.ErrFull)
		wrong(t, "one byte more of another", d.Append("g", "y"), api.ErrFull)
		wrong(t, "no byte more", d.Append("g", ""), api.OK)
		if d.Used() != room.is || len(d.Read("f")) != room.is {
			t.Errorf("room for %d: %d bytes", room.asked, d.Used())
		}
		if room.is > 0 {
			done(t, d, cut("f", room.is-1), put("g", "y"))
			wrong(t, "what was cut, and was put", d.Append("f", "y"), api.ErrFull)
			has(t, d, "g", "y", "")
		}
	}
}

// TestRoomBehindACrash: what is gone makes room.
func TestRoomBehindACrash(t *testing.T) {
	d := disk.New(4)
	done(t, d, put("f", "ab"), sync("f"), put("g", "cd"), crash(1))
	if d.Used() != 3 {
		t.Errorf("%d bytes", d.Used())
	}
	wrong(t, "two more", d.Append("f", "xx"), api.ErrFull)
	wrong(t, "one more", d.Append("f", "x"), api.OK)
}

// TestFiles: there are four, with bytes or without; that there are is told ahead
// of what they have.
func TestFiles(t *testing.T) {
	d := disk.New(4)
	wrong(t, "no name", d.Append("", ""), api.ErrArg)
	wrong(t, "no name, no room", d.Append("", "12345"), api.ErrArg)
	done(t, d, put("a", ""), put("b", ""), put("c", "1"))
	wrong(t, "the fourth, no room", d.Append("d", "1234"), api.ErrFull)
	done(t, d, put("d", ""))
	wrong(t, "the fifth", d.Append("e", ""), api.ErrArg)
	wrong(t, "the fifth, no room", d.Append("e", "1234"), api.ErrArg)
	for _, name := range []string{"a", "b", "c", "d"} {
		wrong(t, name, d.Sync(name), api.OK)
	}
	done(t, d, put("d", "2"), cut("c", 0), crash(0))
	wrong(t, "the fifth, behind a crash", d.Append("e", ""), api.ErrArg)
	for _, name := range []string{"", "e", "A", "a ", "a\x00"} {
		wrong(t, "Sync of none", d.Sync(name), api.ErrNone)
		for _, n := range []int{-1, 0, 1} {
			wrong(t, "Cut of none", d.Cut(name, n), api.ErrNone)
		}
		has(t, d, name, "", "")
	}
	if d.Dead() {
		t.Error("what fell took a step")
	}
}

// TestNames: any bytes but none at all are a name.
func TestNames(t *testing.T) {
	names := []string{"\x00", "\xff\xfe", strings.Repeat("n", 1<<16), "a/../b"}
	d := disk.New(100)
	for i, name := range names {
		done(t, d, put(name, fmt.Sprint(i, "\x00\xff")))
	}
	for i, name := range names {
		has(t, d, name, fmt.Sprint(i, "\x00\xff"), "")
	}
}

func TestCut(t *testing.T) {
	for _, c := range []struct {
		n         int
		err       api.Errno
		all, last string
	}{
		{math.MinInt, 1, "abcde", "abc"}, {-1, 1, "abcde", "abc"}, {0, 0, "", ""}, {2, 0, "ab", "ab"}, {3, 0, "abc", "abc"},
		{4, 0, "abcd", "abc"}, {5, 0, "abcde", "abc"}, {6, 1, "abcde", "abc"}, {math.MaxInt, 1, "abcde", "abc"},
	} {
		d := disk.New(20)
		done(t, d, put("f", "abc"), sync("f"), put("f", "de"), put("g", "01234"))
		wrong(t, fmt.Sprint("Cut to ", c.n), d.Cut("f", c.n), c.err)
		has(t, d, "f", c.all, c.last)
		has(t, d, "g", "01234", "")
		// What was cut off is gone: neither more bytes nor a crash bring it back.
		if c.err == api.OK {
			done(t, d, put("f", "x"), crash(1))
			has(t, d, "f", (c.all + "x")[:len(c.last)+1], (c.all + "x")[:len(c.last)+1])
		}
	}
}

// TestFuse lets the power go at each step of a script, and holds what there is
// then against the steps that were done.
func TestFuse(t *testing.T) {
	script := []call{put("f", "ab"), sync("f"), put("g", ""), put("g", "c"), cut("f", 1), sync("g"), put("f", "xyz"), sync("f"), cut("f", 4), cut("g", 1)}
	states := []struct{ f, lastF, g, lastG string }{
		{}, {f: "a"}, {f: "ab"}, {"ab", "ab", "", ""}, {"ab", "ab", "c", ""}, {"a", "a", "c", ""}, {"a", "a", "c", "c"},
		{"ax", "a", "c", "c"}, {"axy", "a", "c", "c"}, {"axyz", "a", "c", "c"}, {"axyz", "axyz", "c", "c"}, {"axyz", "axyz", "c", "c"}, {"axyz", "axyz", "c", "c"},
	}
	for n, state := range states {
		d := disk.New(20)
		d.Fuse(n)
		var err api.Errno
		for _, c := range script {
			if err = c.on(d); err != api.OK {
				break
			}
		}
		if all := n == len(states)-1; all == d.Dead() || all != (err == api.OK) || !all && err != api.ErrDead {
			t.Fatalf("%d steps: dead %v, error %d", n, d.Dead(), err)
		}
		if d.Used() != len(state.f+state.g) || d.Lasting("f") != state.lastF || d.Lasting("g") != state.lastG {
			t.Errorf("%d steps: %d bytes, %q and %q last", n, d.Used(), d.Lasting("f"), d.Lasting("g"))
		}
		if d.Dead() && d.Read("f")+d.Read("g") != "" {
			t.Errorf("%d steps: a dead disk is read", n)
		}
		lost := d.Copy()
		d.Crash(9)
		has(t, d, "f", state.f, state.f)
		has(t, d, "g", state.g, state.g)
		lost.Crash(-9)
		has(t, lost, "f", state.lastF, state.lastF)
		has(t, lost, "g", state.lastG, state.lastG)
	}
}

// TestFuseIsSet: the last one holds; below 0 it is none; it does not come back to
// life by one, and a crash takes it away.
func TestFuseIsSet(t *testing.T) {
	d := disk.New(20)
	done(t, d, fuse(1), fuse(3), put("f", "abc"))
	if d.Dead() {
		t.Error("dead ahead of the next step")
	}
	done(t, d, fuse(0), put("f", ""), put("g", ""))
	if d.Dead() {
		t.Error("dead ahead of the first step")
	}
	for _, n := range []int{-1, math.MinInt} {
		done(t, d, fuse(0), fuse(n), put("f", "d"), sync("f"))
	}
	done(t, d, fuse(math.MaxInt), put("f", "e"), fuse(0))
	wrong(t, "no step", d.Sync("f"), api.ErrDead)
	for _, n := range []int{-1, 0, 5} {
		d.Fuse(n)
		wrong(t, "a dead one with a fuse", d.Append("f", "x"), api.ErrDead)
	}
	has(t, d, "f", "", "abcdd")
	d.Crash(1)
	done(t, d, put("f", "fghijk"), sync("f"))
	has(t, d, "f", "abcddefghijk", "abcddefghijk")
	done(t, d, fuse(2), crash(0), put("f", "lmn"))
}

// TestWhatFallsIsNoStep: by a fuse of no step all the same errors are told, and
// the disk is not dead.
func TestWhatFallsIsNoStep(t *testing.T) {
	d := disk.New(4)
	done(t, d, put("f", "ab"), fuse(0))
	wrong(t, "no name", d.Append("", "a"), api.ErrArg)
	wrong(t, "no room", d.Append("f", "abc"), api.ErrFull)
	wrong(t, "Sync of none", d.Sync("g"), api.ErrNone)
	wrong(t, "Cut of none", d.Cut("g", 9), api.ErrNone)
	wrong(t, "Cut below", d.Cut("f", -1), api.ErrArg)
	wrong(t, "Cut above", d.Cut("f", 3), api.ErrArg)
	if d.Dead() {
		t.Error("dead")
	}
	wrong(t, "Cut to what there is", d.Copy().Cut("f", 2), api.ErrDead)
	wrong(t, "one byte of a new file", d.Append("g", "a"), api.ErrDead)
	// The file is there, though its byte is not.
	d.Crash(0)
	wrong(t, "that file", d.Sync("g"), api.OK)
}

// TestDead: all that is asked of a dead disk is told so ahead of anything else.
func TestDead(t *testing.T) {
	d := disk.New(4)
	done(t, d, put("f", "ab"), sync("f"), put("f", "c"), put("h", ""), fuse(0))
	wrong(t, "the step that is not done", d.Sync("f"), api.ErrDead)
	for _, name := range []string{"", "f", "g"} {
		for _, b := range []string{"", "x", "xxxxx"} {
			wrong(t, "Append", d.Append(name, b), api.ErrDead)
		}
		for _, n := range []int{-1, 0, 2, 9} {
			wrong(t, "Cut", d.Cut(name, n), api.ErrDead)
		}
		wrong(t, "Sync", d.Sync(name), api.ErrDead)
	}
	if !d.Dead() || d.Used() != 3 {
		t.Errorf("dead %v, %d bytes", d.Dead(), d.Used())
	}
	has(t, d, "f", "", "ab")
	d.Crash(5)
	has(t, d, "f", "abc", "abc")
	wrong(t, "what a dead one did not take", d.Sync("g"), api.ErrNone)
}

// TestCrash: the bytes that are kept are counted over the files as their names
// rise, by bytes.
func TestCrash(t *testing.T) {
	names := []string{"B", "a", "ab", "\xff"}
	for _, shuffled := range [][]int{{0, 1, 2, 3}, {3, 2, 1, 0}, {2, 0, 3, 1}, {1, 3, 0, 2}} {
		for keep := -1; keep <= 10; keep++ {
			for range 20 { // the order of a map is another one each time
				d := disk.New(100)
				for _, i := range shuffled {
					done(t, d, put(names[i], "xy"), sync(names[i]), put(names[i], "12"))
				}
				d.Crash(keep)
				for i, name := range names {
					want := "xy12"[:2+min(max(keep-2*i, 0), 2)]
					has(t, d, name, want, want)
				}
				done(t, d, crash(0))
			}
		}
	}
	for _, keep := range []int{math.MinInt, math.MaxInt} {
		d := disk.New(100)
		done(t, d, put("b", "12"), put("a", "34"), crash(keep))
		all := map[bool]string{true: "3412"}[keep > 0]
		if d.Read("a")+d.Read("b") != all || d.Lasting("a")+d.Lasting("b") != all {
			t.Errorf("Crash(%d): %q, %q", keep, d.Read("a"), d.Read("b"))
		}
	}
}

// TestCopy: the same in all, its fuse and its death too; then each on its own.
func TestCopy(t *testing.T) {
	d := disk.New(6)
	done(t, d, put("f", "ab"), sync("f"), put("f", "c"), put("g", ""), fuse(1))
	c := d.Copy()
	has(t, c, "f", "abc", "ab")
	wrong(t, "room", c.Append("f", "defg"), api.ErrFull)
	wrong(t, "a step", c.Append("g", "x"), api.OK)
	wrong(t, "the next", c.Append("g", "y"), api.ErrDead)
	if d.Dead() || !c.Dead() || !c.Copy().Dead() || d.Used() != 3 {
		t.Error("a copy's steps are the other one's")
	}
	has(t, d, "g", "", "")
	wrong(t, "Cut", d.Cut("f", 1), api.OK)
	has(t, c, "f", "", "ab")
	c.Crash(9)
	has(t, c, "f", "abc", "abc")
	has(t, d, "f", "a", "a")
	e := c.Copy()
	done(t, c, put("f", "de"))
	done(t, e, put("f", "xy"), put("h", ""))
	has(t, c, "f", "abcde", "abc")
	has(t, e, "f", "abcxy", "abc")
	wrong(t, "a copy's file", c.Sync("h"), api.ErrNone)
}

// TestNil: a disk that is nil is dead, and has nothing; one that was not made by
// New has no room.
func TestNil(t *testing.T) {
	var d *disk.Disk
	d.Fuse(3)
	d.Crash(3)
	wrong(t, "Append", d.Append("", "x"), api.ErrDead)
	wrong(t, "Sync", d.Sync("f"), api.ErrDead)
	wrong(t, "Cut", d.Cut("f", -1), api.ErrDead)
	has(t, d, "f", "", "")
	if !d.Dead() || d.Used() != 0 || d.Copy() != nil {
		t.Error("a nil disk")
	}
	z := &disk.Disk{}
	wrong(t, "Sync", z.Copy().Sync("f"), api.ErrNone)
	wrong(t, "Append", z.Append("f", "x"), api.ErrFull)
	wrong(t, "Append of no bytes", z.Append("f", ""), api.OK)
	wrong(t, "Sync", z.Sync("f"), api.OK)
}

// TestAllSmall goes through all rows of few calls.
func TestAllSmall(t *testing.T) {
	names := []string{"a", "b", ""}
	var calls []call
	for _, name := range names {
		calls = append(calls, put(name, ""), put(name, "x"), put(name, "yz"), sync(name), cut(name, 1))
	}
	calls = append(calls, cut("a", 0), cut("b", -1), cut("a", 3), fuse(-1), fuse(0), fuse(1), fuse(2), crash(-1), crash(0), crash(1), crash(2))
	var through func(d *disk.Disk, r *reference, path []call)
	through = func(d *disk.Disk, r *reference, path []call) {
		for _, c := range calls {
			e, s := d.Copy(), r.copied()
			hold(t, e, s, c, names, path)
			if len(path) < 3 {
				through(e, s, append(slices.Clip(path), c))
			}
		}
	}
	through(disk.New(4), newReference(4), nil)
}

// TestDrawn draws long rows of calls, wrong ones among them; what was synced has
// to last through all of them.
func TestDrawn(t *testing.T) {
	draw := rand.New(rand.NewSource(9))
	names := []string{"b", "a", "log", "\xff", "A", ""}
	numbers := []int{math.MinInt, -1, 0, 0, 1, 2, 3, 5, 8, 13, 40, math.MaxInt}
	for range 3000 {
		room := draw.Intn(60) - 5
		d, r := disk.New(room), newReference(room)
		var path []call
		for range 60 {
			c := call{name: names[draw.Intn(len(names))], n: numbers[draw.Intn(len(numbers))]}
			c.kind = []string{"append", "append", "append", "append", "sync", "sync", "cut", "fuse", "crash"}[draw.Intn(9)]
			c.b = "0123456789"[:draw.Intn(11)]
			last := r.last[c.name]
			hold(t, d, r, c, names, path)
			if c.kind != "cut" && !strings.HasPrefix(d.Lasting(c.name), last) {
				t.Fatalf("%v: %q lasted, %q does", c, last, d.Lasting(c.name))
			}
			if draw.Intn(8) == 0 {
				d, r = d.Copy(), r.copied()
			}
			path = append(path, c)
		}
	}
}

// TestSyncedLasts lets the power go at each step of writing records, each of
// which is synced, and lets each number of bytes stand: those that were told are
// there, and of the next one a front.
func TestSyncedLasts(t *testing.T) {
	const records = "one.two.three.four."
	for steps := range len(records) + 5 {
		for keep := range 7 {
			d := disk.New(100)
			d.Fuse(steps)
			var sure string
			for record := range strings.SplitAfterSeq(records, ".") {
				if d.Append("log", record) == api.OK && d.Sync("log") == api.OK {
					sure += record
				}
			}
			d.Crash(keep)
			got := d.Read("log")
			if !strings.HasPrefix(got, sure) || !strings.HasPrefix(records, got) || len(got) > len(sure)+keep {
				t.Fatalf("%d steps, %d kept: %q of %q", steps, keep, got, sure)
			}
		}
	}
}
