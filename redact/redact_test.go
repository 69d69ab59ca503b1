package redact_test

import (
	"fmt"
	"math/rand"
	"slices"
	"strconv"
	"strings"
	"testing"

	"heliast/api"
	"heliast/canon"
	"heliast/redact"
	"heliast/seal"
	"heliast/value"
)

// kinds are all that keep something, and others that are nearly one of them.
var kinds = []string{
	"m.room.create", "m.room.member", "m.room.power_levels", "m.room.join_rules", "m.room.server_acl",
	"", " ", "*", "t", "m.room.message", "m.room.name", "m.room.aliases", "m.room.history_visibility", "m.room.redaction", "m.room.third_party_invite",
	"m.room.creat", "m.room.create ", " m.room.create", "M.room.create", "m.room.member\x00", "m.room.members", "m.room.power_level", "room.member", "join_rules", "type", "content",
}

// contentKeys are all that some kind keeps, and others that are nearly one of
// them, or that an event itself keeps.
var contentKeys = []string{
	"membership", "ban", "events", "events_default", "invite", "kick", "state_default", "users", "users_default", "join_rule", "allow", "deny",
	"", " ", "*", "x", "a b", "Membership", "membership ", "member", "memberships", "bans", "event", "events_", "redact", "notifications", "historical",
	"join_authorised_via_users_server", "third_party_invite", "join_rules", "allow_ip_literals", "creator", "room_version", "user", "ban events",
	"auth_events", "content", "depth", "hashes", "origin_server_ts", "prev_events", "room_id", "sender", "state_key", "type", "unsigned", "sha256", "\u00e9", "\U0001f600",
}

// eventKeys are all that an event keeps, and others.
var eventKeys = []string{
	"auth_events", "content", "depth", "hashes", "origin_server_ts", "prev_events", "room_id", "sender", "state_key", "type",
	"unsigned", "signatures", "event_id", "origin", "membership", "prev_state", "redacts", "", " ", "*", "y", "Type", "types", "typ", "type ", "contents", "hash", "room", "auth_events content", "ban", "sha256", "\u00e9",
}

// someValues are one of each kind at least.
var someValues = []string{
	`null`, `true`, `false`, `0`, `-7`, `""`, `"t"`, `"m.room.create"`, `"membership"`, `[]`, `["m.room.create"]`, `[{"membership":1,"x":2}]`,
	`{}`, `{"x":1}`, `{"membership":"join","x":1}`, `{"content":{"x":1},"type":"m.room.create"}`, `{"sha256":"x"}`,
}

// object is the row of bytes of an object of pairs, keys and rows of bytes.
func object(pairs ...string) string {
	var parts []string
	for i := 0; i < len(pairs); i += 2 {
		parts = append(parts, strconv.Quote(pairs[i])+":"+pairs[i+1])
	}
	return "{" + strings.Join(parts, ",") + "}"
}

// whole is an object of all of keys, each with a value of its own.
func whole(keys []string) string {
	var pairs []string
	for i, key := range keys {
		pairs = append(pairs, key, fmt.Sprintf(`{"in":[%d,{"x":"y"}]}`, i))
	}
	return object(pairs...)
}

func TestExample(t *testing.T) {
	const s = `{"type":"m.room.member","content":{"membership":"join","x":1},"y":2}`
	v := read(t, s)
	if got := canon.Print(redact.Redact(v)); got != `{"content":{"membership":"join"},"type":"m.room.member"}` {
		t.Errorf("Redact: %s", got)
	}
	if got := redact.ID(v); got != "$tVagWgG3LnslaNapMZdh9lSX-qDqQ0fD-5btdNn3WGk" {
		t.Errorf("ID: %s", got)
	}
	hold(t, s)
}

func TestKept(t *testing.T) {
	n := 0
	for _, kind := range kinds {
		for _, key := range contentKeys {
			got := redact.Kept(kind, key)
			if got != among(keptOf[kind], key) {
				t.Errorf("Kept(%q, %q) = %v", kind, key, got)
			}
			if got {
				n++
			}
		}
	}
	if want := len(contentKeys) + 1 + 8 + 1 + 2; n != want {
		t.Errorf("%d are kept, want %d", n, want)
	}
	for _, key := range []string{"", "x", "\xff", strings.Repeat("k", 1<<16)} {
		if !redact.Kept("m.room.create", key) || redact.Kept("m.room.member", key) || redact.Kept(key, "membership") || redact.Kept(key, key) {
			t.Errorf("Kept of %.10q", key)
		}
	}
	for kind := range keptOf {
		if redact.Kept("membership", kind) || redact.Kept(strings.ToUpper(kind), "membership") {
			t.Errorf("Kept of %s, the wrong way round", kind)
		}
	}
}

func TestRedactKeys(t *testing.T) {
	hold(t, `{}`)
	hold(t, whole(eventKeys))
	for _, key := range eventKeys {
		for _, x := range someValues {
			s := object(key, x)
			hold(t, s)
			want := "{}"
			if among(keptOfEvent, key) {
				want = s
			}
			if key == "content" && x[0] == '{' {
				want = object(key, "{}")
			}
			if got := canon.Print(redact.Redact(read(t, s))); got != want {
				t.Errorf("Redact(%s) = %s, want %s", s, got, want)
			}
		}
	}
}

func TestRedactContent(t *testing.T) {
	content := whole(contentKeys)
	for _, kind := range kinds {
		quoted := canon.Print(value.Str(kind))
		hold(t, object("type", quoted))
		hold(t, object("type", quoted, "content", content, "y", content, "unsigned", content, "hashes", content, "state_key", content))
		for _, key := range contentKeys {
			hold(t, object("content", object(key, `{"x":1,"membership":[]}`), "type", quoted))
		}
		for _, x := range someValues {
			hold(t, object("content", x, "type", quoted))
		}
	}
}

// TestRedactNoText: of a type that is no text, or of none, no key of the
// content is kept; the type itself stays.
func TestRedactNoText(t *testing.T) {
	content := whole(contentKeys)
	for _, x := range []string{`null`, `true`, `7`, `[]`, `["m.room.create"]`, `{}`, `{"type":"m.room.create"}`, `{"m.room.create":1}`} {
		s := object("content", content, "type", x)
		hold(t, s)
		if got := canon.Print(redact.Redact(read(t, s))); got != object("content", "{}", "type", x) {
			t.Errorf("Redact(%s) = %s", s, got)
		}
	}
	for _, pairs := range [][]string{
		{"content", content},
		{"content", `{"type":"m.room.create","x":1}`},
		{"content", `{"x":1}`, "types", `"m.room.create"`},
		{"Type", `"m.room.create"`, "content", `{"x":1}`},
	} {
		if got := canon.Print(redact.Redact(read(t, object(pairs...)))); got != `{"content":{}}` {
			t.Errorf("Redact(%s) = %s", object(pairs...), got)
		}
	}
}

func TestRedactNoObject(t *testing.T) {
	for _, s := range []string{`null`, `true`, `false`, `0`, `5`, `""`, `"type"`, `[]`, `[{"type":"t"}]`, `[[]]`} {
		if got := redact.Redact(read(t, s)); got.Kind != api.Null || got.N != 0 || got.Text != "" || got.Keys != nil || got.List != nil {
			t.Errorf("Redact(%s) = %s", s, told(got))
		}
		if got := redact.ID(read(t, s)); got != "$dCNOmK_nSY-12vHzasLXiswzlGT5UHA7jAGYkvmCuQs" {
			t.Errorf("ID(%s) = %s", s, got)
		}
		hold(t, s)
	}
}

// TestID: a name hangs on all that stays, and on nothing else.
func TestID(t *testing.T) {
	s := object("type", `"m.room.power_levels"`, "content", `{"ban":50,"x":1}`, "sender", `"@a:b"`, "unsigned", `{}`)
	name := redact.ID(read(t, s))
	if !seal.Named(name) {
		t.Fatalf("ID(%s) = %s", s, name)
	}
	seen := map[string]string{name: s}
	for _, key := range eventKeys {
		other := value.With(read(t, s), key, value.Num(1))
		got := redact.ID(other)
		if !among(keptOfEvent, key) {
			if got != name {
				t.Errorf("another %q makes another name", key)
			}
			continue
		}
		if seen[got] != "" {
			t.Errorf("%s and %s have one name", canon.Print(other), seen[got])
		}
		seen[got] = canon.Print(other)
	}
	content, _ := value.Get(read(t, s), "content")
	for _, key := range contentKeys {
		other := value.With(read(t, s), "content", value.With(content, key, value.Num(2)))
		if got := redact.ID(other); (got == name) == redact.Kept("m.room.power_levels", key) {
			t.Errorf("ID with %q in the content: %s", key, got)
		}
	}
}

// TestDrawn: events of keys and values that are drawn, with and without seals.
func TestDrawn(t *testing.T) {
	from := rand.New(rand.NewSource(1))
	pick := func(of []string) string { return of[from.Intn(len(of))] }
	draw := func(keys []string, most int, val func(key string) string) string {
		keys = slices.Clone(keys)
		from.Shuffle(len(keys), func(i, j int) { keys[i], keys[j] = keys[j], keys[i] })
		var pairs []string
		for _, key := range keys[:from.Intn(most+1)] {
			pairs = append(pairs, key, val(key))
		}
		return object(pairs...)
	}
	for range 1000 {
		s := draw(eventKeys, len(eventKeys), func(key string) string {
			switch {
			case key == "type" && from.Intn(8) > 0:
				return strconv.Quote(pick(kinds[:10]))
			case key == "content" && from.Intn(8) > 0:
				return draw(contentKeys, len(contentKeys), func(string) string { return pick(someValues) })
			}
			return pick(someValues)
		})
		hold(t, s)
		hold(t, canon.Print(redact.Sealed(read(t, s))))
	}
}

// TestGreat: contents of many keys, and values that lie deep.
func TestGreat(t *testing.T) {
	var pairs []string
	for i := range 3000 {
		pairs = append(pairs, "k"+strconv.Itoa(i), "1")
	}
	for _, kind := range []string{"m.room.create", "m.room.power_levels", "t"} {
		hold(t, object("content", object(append(pairs, "users", "{}", "ban", "7")...), "type", strconv.Quote(kind)))
	}
	deep := strings.Repeat("[", 30) + strings.Repeat("]", 30)
	hold(t, object("content", object("membership", deep, "x", deep), "type", `"m.room.member"`))
	hold(t, object("content", deep, "depth", deep))
}
