package event_test

import (
	"strings"
	"testing"

	"heliast/api"
	"heliast/canon"
	"heliast/event"
	"heliast/redact"
	"heliast/value"
)

// known are events, their rows of bytes and their names, as they were worked out
// elsewhere.
func known(t *testing.T) []struct {
	x       api.Event
	row, id string
} {
	a, b := "$ypeBEsobvcr6wjGzmiPcTaeG7_gUfE5yuYB3ha_uSLs", "$PiPoFgA5WUoziU9lZOGxNIu9egCI1CxKy3PurtWcAJ0"
	return []struct {
		x       api.Event
		row, id string
	}{
		{
			api.Event{Type: "t", Sender: "@a:b", Room: "!r:b", Body: api.Val{Kind: api.Object}},
			`{"auth_events":[],"content":{},"depth":0,"hashes":{"sha256":"r7cfHvdrk4IXpx8vC1vYlaqm0ntF8h2WUPSLyfQeUdE"},"origin_server_ts":0,"prev_events":[],"room_id":"!r:b","sender":"@a:b","type":"t"}`,
			"$8tAnyjCQUKt6MkNoLNBrpRKPyxd9_uOFdupzt0N-qbM",
		},
		{
			api.Event{Type: "m.room.create", Is: true, Sender: "@a:s", Room: "!r:s", Depth: 1, Time: 7, Body: read(t, `{"x":[1,null,true]}`)},
			`{"auth_events":[],"content":{"x":[1,null,true]},"depth":1,"hashes":{"sha256":"avxhceSnHkkwitkA8sUD8eRHU07nbtQVVUii472irbk"},"origin_server_ts":7,"prev_events":[],"room_id":"!r:s","sender":"@a:s","state_key":"","type":"m.room.create"}`,
			"$M5HurHloKAKTcdfrs-dKZ4M5uztaGYZUtFPutspeB4I",
		},
		{
			api.Event{Type: "m.room.member", Is: true, Key: "@b:s", Sender: "@a:s", Room: "!r:s", Prev: []string{b, a}, Auth: []string{a}, Depth: api.MaxInt, Time: api.MaxInt, Body: read(t, `{"membership":"ban","reason":"\u00e9\"\n"}`)},
			`{"auth_events":["` + a + `"],"content":{"membership":"ban","reason":"` + "\u00e9" + `\"\n"},"depth":9007199254740991,"hashes":{"sha256":"d6njRfaOTv_bXFeEqhd6wZiRqczQnqWm0FfyEDOnASE"},"origin_server_ts":9007199254740991,"prev_events":["` + b + `","` + a + `"],"room_id":"!r:s","sender":"@a:s","state_key":"@b:s","type":"m.room.member"}`,
			"$z38vwzpyuPlYlRgpvMP5gEvSLzkojZ6rkvTd5tthedk",
		},
	}
}

func TestKnown(t *testing.T) {
	for _, c := range known(t) {
		if got := event.Bytes(c.x); got != c.row {
			t.Errorf("Bytes = %s, want %s", got, c.row)
		}
		x := event.Named(c.x)
		if x.ID != c.id {
			t.Errorf("ID = %s, want %s", x.ID, c.id)
		}
		y, err := event.Read(event.Make(c.x))
		if err != api.OK || !event.Same(x, y) || toldEvent(x) != toldEvent(y) {
			t.Errorf("Read of Make = %s, %d", toldEvent(y), err)
		}
		if z, err := event.Source(c.row); err != api.OK || !event.Same(x, z) {
			t.Errorf("Source = %s, %d", toldEvent(z), err)
		}
		holdMade(t, c.x)
		hold(t, c.row)
	}
}

// full is an event of which no field is its zero value.
func full(t *testing.T) api.Event {
	return api.Event{
		ID: name(9), Type: "m.room.member", Key: "k", Is: true, Sender: "@a:b", Room: "!r:b",
		Prev: []string{name(1), name(2)}, Auth: []string{name(3), name(2), name(1)}, Depth: 5, Time: 6,
		Body: read(t, `{"membership":"join","x":{"y":[1,"z"]}}`),
	}
}

// others are an event with one field changed, by what was changed.
func others(t *testing.T) map[string]api.Event {
	out := map[string]api.Event{}
	change := func(what string, by func(x *api.Event)) {
		x := full(t)
		by(&x)
		out[what] = x
	}
	change("ID", func(x *api.Event) { x.ID = name(8) })
	change("no ID", func(x *api.Event) { x.ID = "" })
	change("Type", func(x *api.Event) { x.Type = "m.room.members" })
	change("Key", func(x *api.Event) { x.Key = "l" })
	change("no Key", func(x *api.Event) { x.Key = "" })
	change("Is", func(x *api.Event) { x.Is = false })
	change("Sender", func(x *api.Event) { x.Sender = "@b:b" })
	change("Room", func(x *api.Event) { x.Room = "!s:b" })
	change("one of Prev", func(x *api.Event) { x.Prev[1] = name(4) })
	change("the order of Prev", func(x *api.Event) { x.Prev[0], x.Prev[1] = x.Prev[1], x.Prev[0] })
	change("more of Prev", func(x *api.Event) { x.Prev = append(x.Prev, name(4)) })
	change("less of Prev", func(x *api.Event) { x.Prev = x.Prev[:1] })
	change("no Prev", func(x *api.Event) { x.Prev = nil })
	change("one of Auth", func(x *api.Event) { x.Auth[0] = name(4) })
	change("the order of Auth", func(x *api.Event) { x.Auth[0], x.Auth[2] = x.Auth[2], x.Auth[0] })
	change("more of Auth", func(x *api.Event) { x.Auth = append(x.Auth, name(4)) })
	change("less of Auth", func(x *api.Event) { x.Auth = x.Auth[:2] })
	change("no Auth", func(x *api.Event) { x.Auth = nil })
	change("Prev and Auth", func(x *api.Event) { x.Prev, x.Auth = x.Auth, x.Prev })
	change("Depth", func(x *api.Event) { x.Depth = 6 })
	change("Time", func(x *api.Event) { x.Time = 5 })
	change("Body", func(x *api.Event) { x.Body = read(t, `{"membership":"join","x":{"y":[1,"zz"]}}`) })
	change("what is kept of Body", func(x *api.Event) { x.Body = read(t, `{"membership":"leave","x":{"y":[1,"z"]}}`) })
	change("a key of Body", func(x *api.Event) { x.Body = read(t, `{"membership":"join","y":{"y":[1,"z"]}}`) })
	change("no key in Body", func(x *api.Event) { x.Body = api.Val{Kind: api.Object} })
	change("a Body that is none", func(x *api.Event) { x.Body = api.Val{} })
	return out
}

func TestSame(t *testing.T) {
	x := full(t)
	if !event.Same(x, full(t)) || !event.Same(api.Event{}, api.Event{}) || event.Same(x, api.Event{}) || event.Same(api.Event{}, x) {
		t.Error("two that are the same, or not")
	}
	all := others(t)
	for what, y := range all {
		if event.Same(x, y) || event.Same(y, x) {
			t.Errorf("Same with another %s", what)
		}
		if !event.Same(y, y) {
			t.Errorf("another %s is not the same as itself", what)
		}
		for other, z := range all {
			if event.Same(y, z) != (toldEvent(y) == toldEvent(z)) {
				t.Errorf("Same of another %s, and another %s", what, other)
			}
		}
	}
	empty := api.Event{Prev: []string{}, Auth: []string{}, Body: api.Val{Keys: []string{}, List: []api.Val{}}}
	if !event.Same(empty, api.Event{}) || !event.Same(api.Event{}, empty) {
		t.Error("nil and empty are not the same")
	}
	// What is no state's may have a key all the same.
	if event.Same(api.Event{Key: "k"}, api.Event{}) {
		t.Error("keys of what is no state's")
	}
}

// TestMake: the row of bytes hangs on each field but the ID, and on the key only
// where there is one.
func TestMake(t *testing.T) {
	x := full(t)
	holdMade(t, x)
	row := event.Bytes(x)
	named := event.Named(x).ID
	for what, y := range others(t) {
		holdMade(t, y)
		same := strings.HasSuffix(what, "ID")
		if (event.Bytes(y) == row) != same || (event.Named(y).ID == named) != same {
			t.Errorf("another %s: %s", what, event.Bytes(y))
		}
	}
	y := x
	y.Is = false
	z := y
	z.Key = ""
	if event.Bytes(y) != event.Bytes(z) || strings.Contains(event.Bytes(y), "state_key") {
		t.Errorf("a key of what is no state's is told: %s", event.Bytes(y))
	}
	if event.Named(y).Key != "k" || event.Named(y).ID != event.Named(z).ID {
		t.Error("Named of what is no state's, but has a key")
	}
	y.Is, z.Is, y.Key = true, true, ""
	if event.Bytes(y) != event.Bytes(z) || !strings.Contains(event.Bytes(y), `"state_key":""`) {
		t.Errorf("an empty key is not told: %s", event.Bytes(y))
	}
}

// TestMakeOdd: of fields that no event may have there is a value all the same.
func TestMakeOdd(t *testing.T) {
	bodies := []string{`null`, `true`, `false`, `0`, `-7`, `""`, `"t"`, `[]`, `[{"x":1}]`, `{}`}
	for _, s := range bodies {
		x := full(t)
		x.Body = read(t, s)
		holdMade(t, x)
		if _, err := event.Read(event.Make(x)); (err == api.OK) != (s == `{}`) {
			t.Errorf("Body %s: error %d", s, err)
		}
		if got := event.Named(x); got.ID != redact.ID(event.Make(x)) || !value.Same(got.Body, x.Body) {
			t.Errorf("Named of Body %s: %s", s, toldEvent(got))
		}
	}
	for _, x := range []api.Event{
		{}, {Is: true}, {Key: "k"}, {Depth: -1, Time: -api.MaxInt}, {Type: fill("t", 200), Key: fill("k", 200), Is: true},
		{Prev: []string{"", "x", "x"}, Auth: []string{"\u00e9", `"`, "\x01"}, Sender: "\\", Room: "\n"},
		{Body: read(t, `{"hashes":{"sha256":"x"},"unsigned":1}`)},
	} {
		holdMade(t, x)
		if got := event.Named(x); got.ID != redact.ID(event.Make(x)) {
			t.Errorf("Named of %s: %s", toldEvent(x), got.ID)
		}
		if _, err := event.Source(event.Bytes(x)); err != api.ErrShape {
			t.Errorf("%s: error %d", toldEvent(x), err)
		}
	}
	// What is too long or too deep to be read is made all the same.
	x := full(t)
	x.Body = value.With(api.Val{}, "x", value.Str(fill("a", api.MaxEvent)))
	if _, err := event.Read(event.Make(x)); err != api.ErrLong || event.Bytes(x) != canon.Print(event.Make(x)) {
		t.Errorf("a long Body: error %d", err)
	}
	x.Body = nested(40, false)
	if _, err := event.Read(event.Make(x)); err != api.ErrDeep || event.Bytes(x) != refBytes(t, x) {
		t.Errorf("a deep Body: error %d", err)
	}
}

// TestMakeAgain: the same event has the same row of bytes each time.
func TestMakeAgain(t *testing.T) {
	for _, x := range []api.Event{full(t), {}, {Body: nested(3, true), Is: true}} {
		first, id := told(event.Make(x)), event.Named(x).ID
		for range 200 {
			if got := told(event.Make(x)); got != first {
				t.Fatalf("Make is %s, and %s", first, got)
			}
			if event.Named(x).ID != id {
				t.Fatal("Named tells two names")
			}
		}
	}
}
