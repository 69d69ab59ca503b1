package redact_test

import (
	"strings"
	"testing"
	"unsafe"

	"heliast/api"
	"heliast/redact"
	"heliast/value"
)

func text(s string) api.Val { return api.Val{Kind: api.Text, Text: strings.Clone(s)} }

// roomy is an object whose lists have room behind their lengths, in which
// something lies.
func roomy(keys []string, list ...api.Val) api.Val {
	k := make([]string, len(keys), len(keys)+3)
	for i, key := range keys {
		k[i] = strings.Clone(key)
	}
	l := make([]api.Val, len(list), len(list)+3)
	copy(l, list)
	k[:cap(k)][len(k)], l[:cap(l)][len(l)] = "behind", text("behind")
	return api.Val{Kind: api.Object, Keys: k, List: l}
}

// event is one of a kind, all in memory of its own.
func event(kind string, content api.Val) api.Val {
	return roomy([]string{"auth_events", "content", "hashes", "sender", "type", "unsigned", "y"},
		api.Val{Kind: api.List, List: []api.Val{text("$long enough to lie somewhere")}},
		content, roomy([]string{"sha256"}, text("x")), text("@a:b"), text(kind), roomy([]string{"age"}, value.Num(1)), text("y"))
}

func contentOf() api.Val {
	return roomy([]string{"membership", "users", "x"}, text("join"), roomy([]string{"@a:b"}, value.Num(7)), text("x"))
}

// behind tells of a value what lies behind its lists' lengths, too.
func behind(v api.Val) string {
	v.Keys, v.List = v.Keys[:cap(v.Keys)], v.List[:cap(v.List)]
	out := told(api.Val{Kind: v.Kind, N: v.N, Text: v.Text, Keys: v.Keys})
	for _, x := range v.List {
		out += behind(x)
	}
	return out
}

// spoil writes into all that can be written into.
func spoil(v api.Val) {
	for i := range v.Keys[:cap(v.Keys)] {
		v.Keys[:cap(v.Keys)][i] = "spoilt"
	}
	for i, x := range v.List[:cap(v.List)] {
		spoil(x)
		v.List[:cap(v.List)][i] = text("spoilt")
	}
}

func TestMemory(t *testing.T) {
	calls := map[string]func(api.Val) api.Val{"Redact": redact.Redact, "Sealed": redact.Sealed}
	events := []func() api.Val{
		func() api.Val { return event("m.room.create", contentOf()) },
		func() api.Val { return event("m.room.member", contentOf()) },
		func() api.Val { return event("m.room.power_levels", contentOf()) },
		func() api.Val { return event("t", contentOf()) },
		func() api.Val { return event("t", text("no object")) },
		func() api.Val { return event("t", api.Val{Kind: api.List, List: []api.Val{text("in a list")}}) },
		contentOf,
		func() api.Val { return text("no object") },
	}
	for name, call := range calls {
		for at, made := range events {
			v := made()
			before := behind(v)
			first, second := call(v), call(v)
			answer := told(first)
			if behind(v) != before {
				t.Errorf("%s of %d: what was handed in was changed", name, at)
			}
			if meet(areas(first), areas(v)) || meet(areas(first), areas(second)) {
				t.Errorf("%s of %d: the answer is no new memory", name, at)
			}
			if l := areas(first); len(l) > 1 {
				for i := range l {
					if meet(l[i:i+1], l[i+1:]) {
						t.Errorf("%s of %d: two pieces of the answer share memory", name, at)
					}
				}
			}
			if strings.Contains(behind(first), "behind") {
				t.Errorf("%s of %d: what lies behind a length is handed out", name, at)
			}
			spoil(first)
			spoil(v)
			if told(second) != answer || told(call(made())) != answer {
				t.Errorf("%s of %d: one answer is seen in another", name, at)
			}
		}
	}
}

// TestMemoryOfTexts: what is told as a text changes nothing, and reads nothing
// behind a length.
func TestMemoryOfTexts(t *testing.T) {
	v := event("m.room.member", contentOf())
	before := behind(v)
	bare := value.Copy(v)
	if redact.Hash(v) != redact.Hash(bare) || redact.ID(v) != redact.ID(bare) || redact.Hashed(v) != redact.Hashed(bare) {
		t.Error("what lies behind a length is read")
	}
	if behind(v) != before {
		t.Error("what was handed in was changed")
	}
	a, b := redact.ID(v), redact.ID(v)
	if unsafe.StringData(a) == unsafe.StringData(b) {
		t.Error("two answers share memory")
	}
}

// TestNilAndEmpty: both are the same thing.
func TestNilAndEmpty(t *testing.T) {
	empty := api.Val{Kind: api.Object, Keys: []string{}, List: []api.Val{}}
	for _, v := range []api.Val{empty, {Kind: api.Object}} {
		if redact.Hash(v) != "RBNvo1WzZ4oRRq0W9-hknpT7T8If536DEMBg9hyq_4o" || redact.ID(v) != "$"+redact.Hash(v) || !redact.Hashed(redact.Sealed(v)) {
			t.Error("an empty object")
		}
		if got := redact.Redact(v); told(got) != told(empty) {
			t.Errorf("Redact of an empty object: %s", told(got))
		}
	}
}

// TestWrong: of values that are not right each call ends, and changes nothing.
func TestWrong(t *testing.T) {
	content := contentOf()
	bad := []api.Val{
		{Kind: -1}, {Kind: 6}, {Kind: 6, Keys: content.Keys, List: content.List},
		{Kind: api.Null, Keys: []string{"type"}, List: []api.Val{text("t")}},
		{Kind: api.List, Keys: []string{"type"}}, {Kind: api.Text, Text: "\xff"}, {Kind: api.Int, N: -1 << 63}, {Kind: api.Truth, N: 9},
		{Kind: api.Object, Keys: []string{"type"}}, {Kind: api.Object, Keys: []string{"content", "type"}, List: []api.Val{content}},
		{Kind: api.Object, List: []api.Val{text("t")}}, {Kind: api.Object, Keys: []string{"content"}, List: []api.Val{content, text("t")}},
		{Kind: api.Object, Keys: []string{"type", "content"}, List: []api.Val{text("m.room.member"), content}},
		{Kind: api.Object, Keys: []string{"content", "content", "hashes", "hashes", "type", "type"}, List: []api.Val{content, content, content, content, text("t"), text("u")}},
		{Kind: api.Object, Keys: []string{"\xff"}, List: []api.Val{{}}}, {Kind: api.Object, N: 1, Text: "t"},
		{Kind: api.Object, Keys: []string{"hashes"}, List: []api.Val{{Kind: api.Object, Keys: []string{"sha256"}}}},
		{Kind: api.Object, Keys: []string{"type"}, List: []api.Val{{Kind: api.Int, Text: "m.room.create"}}},
	}
	for _, x := range bad {
		for _, v := range []api.Val{x, event("m.room.member", x), event("m.room.create", x), roomy([]string{"content", "hashes", "type"}, x, x, x)} {
			before := behind(v)
			redact.Hash(v)
			redact.Hashed(v)
			redact.ID(v)
			if redact.Sealed(v).Kind != api.Object {
				t.Errorf("Sealed(%s) is no object", told(v))
			}
			redact.Redact(v)
			if behind(v) != before {
				t.Errorf("%s was changed", before)
			}
		}
	}
}
