package redact_test

import (
	"bytes"
	"crypto/sha256"
	"encoding/base64"
	"encoding/json"
	"strconv"
	"strings"
	"testing"
	"unsafe"

	"heliast/api"
	"heliast/canon"
	"heliast/redact"
	"heliast/value"
)

// What the chapter says, written down a second time over the library's JSON:
// objects are maps there, whose keys come out in the order of their bytes.

const keptOfEvent = " auth_events content depth hashes origin_server_ts prev_events room_id sender state_key type "

// keptOf has a * where every key is kept.
var keptOf = map[string]string{
	"m.room.create":       "*",
	"m.room.member":       " membership ",
	"m.room.power_levels": " ban events events_default invite kick state_default users users_default ",
	"m.room.join_rules":   " join_rule ",
	"m.room.server_acl":   " allow deny ",
}

func among(of, key string) bool {
	return of == "*" || key != "" && !strings.Contains(key, " ") && strings.Contains(of, " "+key+" ")
}

func refRead(t *testing.T, s string) any {
	t.Helper()
	d := json.NewDecoder(strings.NewReader(s))
	d.UseNumber()
	var v any
	if err := d.Decode(&v); err != nil {
		t.Fatalf("%q: %v", s, err)
	}
	return v
}

func refPrint(t *testing.T, v any) string {
	t.Helper()
	var out bytes.Buffer
	e := json.NewEncoder(&out)
	e.SetEscapeHTML(false)
	if err := e.Encode(v); err != nil {
		t.Fatal(err)
	}
	return strings.TrimSuffix(out.String(), "\n")
}

func refSum(s string) string {
	sum := sha256.Sum256([]byte(s))
	return base64.RawURLEncoding.EncodeToString(sum[:])
}

func refHash(t *testing.T, s string) string {
	v := refRead(t, s)
	if o, is := v.(map[string]any); is {
		delete(o, "hashes")
		delete(o, "unsigned")
	}
	return refSum(refPrint(t, v))
}

func refSealed(t *testing.T, s string) string {
	o, is := refRead(t, s).(map[string]any)
	if !is {
		o = map[string]any{}
	}
	o["hashes"] = map[string]any{"sha256": refHash(t, s)}
	return refPrint(t, o)
}

func refHashed(t *testing.T, s string) bool {
	o, _ := refRead(t, s).(map[string]any)
	hashes, _ := o["hashes"].(map[string]any)
	sum, is := hashes["sha256"].(string)
	return is && sum == refHash(t, s)
}

func refRedact(t *testing.T, s string) string {
	o, is := refRead(t, s).(map[string]any)
	if !is {
		return "null"
	}
	kind, is := o["type"].(string)
	of := keptOf[kind]
	if !is {
		of = ""
	}
	for key := range o {
		if !among(keptOfEvent, key) {
			delete(o, key)
		}
	}
	if content, is := o["content"].(map[string]any); is {
		for key := range content {
			if !among(of, key) {
				delete(content, key)
			}
		}
	}
	return refPrint(t, o)
}

// read is the value of a row of bytes, which has to be one.
func read(t *testing.T, s string) api.Val {
	t.Helper()
	v, err, at := canon.Parse(s)
	if err != api.OK {
		t.Fatalf("%q: error %d at %d", s, err, at)
	}
	return v
}

// hold holds all calls of the value of s against what the chapter says.
func hold(t *testing.T, s string) {
	t.Helper()
	v := read(t, s)
	before := told(v)
	if got, want := redact.Hash(v), refHash(t, s); got != want {
		t.Fatalf("Hash(%s) = %s, want %s", s, got, want)
	}
	sealed := redact.Sealed(v)
	if got, want := canon.Print(sealed), refSealed(t, s); got != want || !value.Right(sealed) {
		t.Fatalf("Sealed(%s) = %s, want %s", s, got, want)
	}
	if got, want := redact.Hashed(v), refHashed(t, s); got != want {
		t.Fatalf("Hashed(%s) = %v", s, got)
	}
	if got, want := redact.Hashed(sealed), refHashed(t, refSealed(t, s)); got != want || v.Kind == api.Object && !got {
		t.Fatalf("Hashed of Sealed(%s) = %v", s, got)
	}
	once, want := redact.Redact(v), refRedact(t, s)
	if got := canon.Print(once); got != want || !value.Right(once) {
		t.Fatalf("Redact(%s) = %s, want %s", s, got, want)
	}
	if got := redact.ID(v); got != "$"+refSum(want) {
		t.Fatalf("ID(%s) = %s", s, got)
	}
	if twice := redact.Redact(once); told(twice) != told(once) {
		t.Fatalf("Redact(%s) once is %s, twice %s", s, told(once), told(twice))
	}
	if redact.ID(once) != redact.ID(v) {
		t.Fatalf("%s has another name when it is redacted", s)
	}
	if told(v) != before {
		t.Fatalf("%s was changed", s)
	}
}

// told is a text that two values share only if all of their fields are alike.
func told(v api.Val) string {
	var out strings.Builder
	out.WriteString("(" + strconv.Itoa(v.Kind) + " " + strconv.FormatInt(v.N, 10) + " " + strconv.Quote(v.Text) + " [")
	for _, k := range v.Keys {
		out.WriteString(strconv.Quote(k) + ",")
	}
	out.WriteString("] [")
	for _, x := range v.List {
		out.WriteString(told(x) + ",")
	}
	out.WriteString("])")
	return out.String()
}

type area struct{ from, to uintptr }

// areas are all the pieces of memory that a value lies in.
func areas(v api.Val) []area {
	var out []area
	add := func(p unsafe.Pointer, size uintptr) {
		if size > 0 {
			out = append(out, area{uintptr(p), uintptr(p) + size})
		}
	}
	text := func(s string) { add(unsafe.Pointer(unsafe.StringData(s)), uintptr(len(s))) }
	text(v.Text)
	add(unsafe.Pointer(unsafe.SliceData(v.Keys)), uintptr(cap(v.Keys))*unsafe.Sizeof(""))
	add(unsafe.Pointer(unsafe.SliceData(v.List)), uintptr(cap(v.List))*unsafe.Sizeof(api.Val{}))
	for _, k := range v.Keys {
		text(k)
	}
	for _, x := range v.List {
		out = append(out, areas(x)...)
	}
	return out
}

func meet(a, b []area) bool {
	for _, x := range a {
		for _, y := range b {
			if x.from < y.to && y.from < x.to {
				return true
			}
		}
	}
	return false
}
