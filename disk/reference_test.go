package disk_test

import (
	"fmt"
	"maps"
	"slices"
	"strings"
	"testing"

	"heliast/api"
	"heliast/disk"
)

// What the chapter says, written down a second time: a disk is two maps of
// texts, and a call that changes one is a list of its steps, each of which is a
// whole disk.

type reference struct {
	room      int
	all, last map[string]string
	fuse      int // below 0: none
	dead      bool
}

func newReference(room int) *reference {
	if room < 0 {
		room = 0
	}
	if room > 4194304 {
		room = 4194304
	}
	return &reference{room, map[string]string{}, map[string]string{}, -1, false}
}

func (r *reference) copied() *reference {
	return &reference{r.room, maps.Clone(r.all), maps.Clone(r.last), r.fuse, r.dead}
}

// do does steps, one behind the other, as far as the fuse lets them be done.
func (r *reference) do(steps []*reference) api.Errno {
	for _, step := range steps {
		if r.fuse == 0 {
			r.dead = true
			return 21
		}
		r.all, r.last = step.all, step.last
		if r.fuse > 0 {
			r.fuse--
		}
	}
	return 0
}

func (r *reference) used() int {
	return len(strings.Join(slices.Collect(maps.Values(r.all)), ""))
}

func (r *reference) append(name, b string) api.Errno {
	_, is := r.all[name]
	if r.dead {
		return 21
	}
	if len(name) == 0 || !is && len(r.all) == 4 {
		return 1
	}
	if r.used()+len(b) > r.room {
		return 20
	}
	if !is {
		r.all[name], r.last[name] = "", ""
	}
	var steps []*reference
	for n := 1; n <= len(b); n++ {
		step := r.copied()
		step.all[name] += b[:n]
		steps = append(steps, step)
	}
	return r.do(steps)
}

func (r *reference) sync(name string) api.Errno {
	_, is := r.all[name]
	if r.dead {
		return 21
	}
	if !is {
		return 31
	}
	step := r.copied()
	step.last[name] = step.all[name]
	return r.do([]*reference{step})
}

func (r *reference) cut(name string, n int) api.Errno {
	_, is := r.all[name]
	if r.dead {
		return 21
	}
	if !is {
		return 31
	}
	if n < 0 || n > len(r.all[name]) {
		return 1
	}
	step := r.copied()
	step.all[name] = step.all[name][:n]
	if n < len(step.last[name]) {
		step.last[name] = step.all[name]
	}
	return r.do([]*reference{step})
}

func (r *reference) read(name string) string {
	if r.dead {
		return ""
	}
	return r.all[name]
}

// crash goes byte by byte.
func (r *reference) crash(keep int) {
	for _, name := range slices.Sorted(maps.Keys(r.all)) {
		stands := r.last[name]
		for len(stands) < len(r.all[name]) && keep > 0 {
			stands = r.all[name][:len(stands)+1]
			keep--
		}
		r.all[name], r.last[name] = stands, stands
	}
	r.fuse, r.dead = -1, false
}

// told is a text that two references share only if they are alike in all that is
// to be seen, names aside.
func (r *reference) told(names []string) string {
	out := fmt.Sprint(r.dead, r.used())
	for _, name := range names {
		out += fmt.Sprintf(" %q %q %q", name, r.read(name), r.last[name])
	}
	return out
}

func told(d *disk.Disk, names []string) string {
	out := fmt.Sprint(d.Dead(), d.Used())
	for _, name := range names {
		out += fmt.Sprintf(" %q %q %q", name, d.Read(name), d.Lasting(name))
	}
	return out
}

// call is one that changes a disk.
type call struct {
	kind string
	name string
	b    string
	n    int
}

func (c call) String() string {
	return fmt.Sprintf("%s of %q, %q, %d", c.kind, c.name, c.b, c.n)
}

func (c call) on(d *disk.Disk) api.Errno {
	switch c.kind {
	case "append":
		return d.Append(c.name, c.b)
	case "sync":
		return d.Sync(c.name)
	case "cut":
		return d.Cut(c.name, c.n)
	case "fuse":
		d.Fuse(c.n)
	case "crash":
		d.Crash(c.n)
	}
	return 0
}

func (c call) onReference(r *reference) api.Errno {
	switch c.kind {
	case "append":
		return r.append(c.name, c.b)
	case "sync":
		return r.sync(c.name)
	case "cut":
		return r.cut(c.name, c.n)
	case "fuse":
		r.fuse = max(c.n, -1)
	case "crash":
		r.crash(c.n)
	}
	return 0
}

// hold does a call on both, and holds what it tells, and what is there then,
// against one another.
func hold(t *testing.T, d *disk.Disk, r *reference, c call, names []string, path []call) {
	t.Helper()
	got, want := c.on(d), c.onReference(r)
	if got != want || told(d, names) != r.told(names) {
		t.Fatalf("%v behind %v: error %d, want %d\n%s, want\n%s", c, path, got, want, told(d, names), r.told(names))
	}
}
