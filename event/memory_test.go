package event_test

import (
	"strings"
	"testing"

	"heliast/api"
	"heliast/canon"
	"heliast/event"
	"heliast/value"
)

// roomyTexts are texts in memory of their own, with room behind the list's
// length, in which something lies.
func roomyTexts(l ...string) []string {
	out := make([]string, len(l), len(l)+3)
	for i, s := range l {
		out[i] = strings.Clone(s)
	}
	out[:cap(out)][len(out)] = "behind"
	return out
}

// roomy is a value with such room in all of its lists.
func roomy(v api.Val) api.Val {
	v.Text = strings.Clone(v.Text)
	if len(v.Keys) > 0 {
		v.Keys = roomyTexts(v.Keys...)
	}
	if len(v.List) > 0 {
		list := make([]api.Val, len(v.List), len(v.List)+3)
		for i, x := range v.List {
			list[i] = roomy(x)
		}
		list[:cap(list)][len(list)] = value.Str("behind")
		v.List = list
	}
	return v
}

func roomyEvent(t *testing.T) api.Event {
	x := full(t)
	for _, s := range []*string{&x.ID, &x.Type, &x.Key, &x.Sender, &x.Room} {
		*s = strings.Clone(*s)
	}
	x.Prev, x.Auth, x.Body = roomyTexts(x.Prev...), roomyTexts(x.Auth...), roomy(x.Body)
	return x
}

// behind tells of a value what lies behind its lists' lengths, too.
func behind(v api.Val) string {
	v.Keys, v.List = v.Keys[:cap(v.Keys)], v.List[:cap(v.List)]
	out := told(api.Val{Kind: v.Kind, N: v.N, Text: v.Text, Keys: v.Keys})
	for _, x := range v.List {
		out += behind(x)
	}
	return out
}

func behindEvent(x api.Event) string {
	x.Prev, x.Auth = x.Prev[:cap(x.Prev)], x.Auth[:cap(x.Auth)]
	return toldEvent(x) + behind(x.Body)
}

// spoil writes into all that can be written into.
func spoil(v api.Val) {
	spoilTexts(v.Keys)
	for i, x := range v.List[:cap(v.List)] {
		spoil(x)
		v.List[:cap(v.List)][i] = value.Str("spoilt")
	}
}

func spoilTexts(l []string) {
	for i := range l[:cap(l)] {
		l[:cap(l)][i] = "spoilt"
	}
}

func spoilEvent(x api.Event) {
	spoilTexts(x.Prev)
	spoilTexts(x.Auth)
	spoil(x.Body)
}

func TestMemoryOfRead(t *testing.T) {
	s := strings.Clone(event.Bytes(full(t)))
	made := func() api.Val { return roomy(read(t, s)) }
	v := made()
	before := behind(v)
	first, err := event.Read(v)
	second, _ := event.Read(v)
	third, _ := event.Source(s)
	answer := toldEvent(first)
	if err != api.OK || behind(v) != before || strings.Contains(behindEvent(first), "behind") {
		t.Errorf("error %d, or what lies behind a length was read or written", err)
	}
	for _, other := range [][]area{areas(v), areasOfTexts(s), areasOfEvent(second), areasOfEvent(third)} {
		if meet(areasOfEvent(first), other) {
			t.Error("Read: the answer is no new memory")
		}
	}
	if meet(areasOfEvent(third), areasOfTexts(s)) || meetInside(areasOfEvent(first)) || meetInside(areasOfEvent(third)) {
		t.Error("an answer is no new memory, or two pieces of it share some")
	}
	spoilEvent(first)
	spoil(v)
	again, _ := event.Read(made())
	for _, x := range []api.Event{second, third, again} {
		if toldEvent(x) != answer {
			t.Error("one answer is seen in another")
		}
	}
}

func TestMemoryOfMake(t *testing.T) {
	x := roomyEvent(t)
	before := behindEvent(x)
	first, second := event.Make(x), event.Make(x)
	row, answer := canon.Print(first), told(first)
	one, two := event.Named(x), event.Named(x)
	named := toldEvent(one)
	if event.Bytes(x) != row || !event.Same(x, x) || behindEvent(x) != before {
		t.Error("what was handed in was changed")
	}
	if strings.Contains(behind(first), "behind") || strings.Contains(behindEvent(one), "behind") {
		t.Error("what lies behind a length is handed out")
	}
	in := areasOfEvent(x)
	if meet(areas(first), in) || meet(areas(first), areas(second)) || meetInside(areas(first)) {
		t.Error("Make: the answer is no new memory")
	}
	if meet(areasOfEvent(one), in) || meet(areasOfEvent(one), areasOfEvent(two)) || meetInside(areasOfEvent(one)) {
		t.Error("Named: the answer is no new memory")
	}
	if meet(areasOfTexts(event.Bytes(x)), areasOfTexts(event.Bytes(x))) {
		t.Error("Bytes: two answers share memory")
	}
	spoil(first)
	spoilEvent(one)
	if behindEvent(x) != before {
		t.Error("an answer is seen in what was handed in")
	}
	spoilEvent(x)
	if told(second) != answer || toldEvent(two) != named {
		t.Error("one answer, or what was handed in, is seen in another")
	}
	if y := full(t); told(event.Make(y)) != answer || event.Bytes(y) != row || toldEvent(event.Named(y)) != named {
		t.Error("an answer is seen in a later one")
	}
}

// TestNilAndEmpty: both are the same thing.
func TestNilAndEmpty(t *testing.T) {
	none := api.Event{Type: "t", Sender: "@a:b", Room: "!r:b", Body: api.Val{Kind: api.Object}}
	empty := none
	empty.Prev, empty.Auth = []string{}, []string{}
	empty.Body = api.Val{Kind: api.Object, Keys: []string{}, List: []api.Val{}}
	if event.Bytes(none) != event.Bytes(empty) || !event.Same(event.Named(none), event.Named(empty)) {
		t.Error("events of no names")
	}
	v := read(t, event.Bytes(none))
	w := value.Copy(v)
	for i, x := range w.List {
		if x.Kind == api.List {
			w.List[i].List = []api.Val{}
		}
	}
	x, err := event.Read(v)
	y, other := event.Read(w)
	if err != api.OK || other != api.OK || !event.Same(x, y) || len(x.Prev) != 0 || len(y.Auth) != 0 {
		t.Errorf("values of no names: errors %d, %d", err, other)
	}
}

// wrongValues are such as are not right.
func wrongValues(t *testing.T) []api.Val {
	one := value.Str(name(1))
	out := []api.Val{
		{Kind: -1}, {Kind: 6}, {Kind: 1 << 40}, {Kind: api.Truth, N: 9}, {Kind: api.Int, N: -1 << 63}, {Kind: api.Int, N: 1<<63 - 1},
		{Kind: api.Text, Text: "\xff"}, {Kind: api.Null, Text: "t", N: 3}, {Kind: api.Text, Text: "t", List: []api.Val{one}, Keys: []string{"x"}},
		{Kind: api.List, Keys: []string{"x"}}, {Kind: api.List, List: []api.Val{{Kind: 9}}, Text: "t"}, {Kind: api.Int, List: []api.Val{one}},
		{Kind: api.Object, Keys: []string{"sha256"}}, {Kind: api.Object, List: []api.Val{one}}, {Kind: api.Object, Keys: []string{"b", "a"}, List: []api.Val{one, one}},
		{Kind: api.Object, Keys: []string{"sha256", "sha256", "x"}, List: []api.Val{one, one}}, {Kind: api.Object, Keys: []string{"\xff"}, List: []api.Val{{}}},
	}
	return append(out, nested(1<<10, true), api.Val{Kind: api.List, List: []api.Val{one, {Kind: api.Text, Text: one.Text, N: 1}}})
}

// TestWrong: of values and events that are not right each call ends, and
// changes nothing.
func TestWrong(t *testing.T) {
	whole := read(t, changed(t))
	var l []api.Val
	for _, x := range wrongValues(t) {
		l = append(l, x)
		for i := range whole.Keys {
			v := value.Copy(whole)
			v.List[i] = x
			l = append(l, v)
			v = value.Copy(v)
			v.Keys[i] = "\xff"
			l = append(l, v)
		}
	}
	for i := range whole.Keys {
		v := value.Copy(whole)
		v.Keys = v.Keys[:i]
		w := value.Copy(whole)
		w.List = w.List[:i]
		u := value.Copy(whole)
		u.Keys[i], u.Keys[0] = u.Keys[0], u.Keys[i]
		l = append(l, v, w, u)
	}
	for _, v := range l {
		before := behind(v)
		if x, err := event.Read(v); err != api.OK && toldEvent(x) != toldEvent(api.Event{}) {
			t.Errorf("Read of %.200s tells an event with error %d", before, err)
		}
		for _, x := range []api.Event{{Body: v}, {Body: v, Type: "\xff", Key: "\xff", Is: true, Sender: "\xff", Room: "\xc3", Prev: []string{"\xff"}, Auth: []string{"\xff"}, Depth: -1 << 63, Time: 1<<63 - 1}} {
			event.Make(x)
			event.Bytes(x)
			if !event.Same(x, x) || event.Named(x).Depth != x.Depth {
				t.Errorf("an event of %.200s", before)
			}
		}
		if behind(v) != before {
			t.Errorf("%.200s was changed", before)
		}
	}
}
