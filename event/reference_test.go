package event_test

import (
	"bytes"
	"crypto/sha256"
	"encoding/base64"
	"encoding/json"
	"fmt"
	"maps"
	"regexp"
	"slices"
	"strconv"
	"strings"
	"testing"
	"unsafe"

	"heliast/api"
	"heliast/canon"
	"heliast/event"
	"heliast/value"
)

// What the chapter says, written down a second time over the library's JSON:
// objects are maps there, whose keys come out in the order of their bytes; what
// a text has to be is a pattern.

var (
	refUser = regexp.MustCompile(`\A@[a-z0-9._=/-]{1,40}:[a-z0-9.-]{1,40}\z`)
	refRoom = regexp.MustCompile(`\A![a-z0-9._=/-]{1,40}:[a-z0-9.-]{1,40}\z`)
	// Of 43 signs of six bits the last one has two bits too many, which are 0.
	refName  = regexp.MustCompile(`\A\$[A-Za-z0-9_-]{42}[AEIMQUYcgkosw048]\z`)
	refCount = regexp.MustCompile(`\A[0-9]+\z`)
)

func refRead(t *testing.T, s string) any {
	t.Helper()
	d := json.NewDecoder(strings.NewReader(s))
	d.UseNumber()
	var v any
	if err := d.Decode(&v); err != nil {
		t.Fatalf("%.200q: %v", s, err)
	}
	return v
}

func refPrint(t *testing.T, v any) string {
	t.Helper()
	var out bytes.Buffer
	e := json.NewEncoder(&out)
	e.SetEscapeHTML(false)
	if err := e.Encode(v); err != nil {
		t.Fatal(err)
	}
	return strings.TrimSuffix(out.String(), "\n")
}

func refSum(s string) string {
	sum := sha256.Sum256([]byte(s))
	return base64.RawURLEncoding.EncodeToString(sum[:])
}

func refHash(t *testing.T, o map[string]any) string {
	o = maps.Clone(o)
	delete(o, "hashes")
	delete(o, "unsigned")
	return refSum(refPrint(t, o))
}

// refSealed is the row of bytes of an object with its hash.
func refSealed(t *testing.T, s string) string {
	t.Helper()
	o := refRead(t, s).(map[string]any)
	o["hashes"] = map[string]any{"sha256": refHash(t, o)}
	return refPrint(t, o)
}

func refDeep(v any) int {
	most := 0
	switch x := v.(type) {
	case map[string]any:
		for _, y := range x {
			most = max(most, refDeep(y))
		}
	case []any:
		for _, y := range x {
			most = max(most, refDeep(y))
		}
	default:
		return 0
	}
	return 1 + most
}

func refText(o map[string]any, key string) string {
	s, is := o[key].(string)
	if !is {
		return "\xff"
	}
	return s
}

func refEdges(o map[string]any, key string) ([]string, bool) {
	l, is := o[key].([]any)
	var out []string
	for _, x := range l {
		s, text := x.(string)
		is = is && text && refName.MatchString(s)
		out = append(out, s)
	}
	slices.Sort(out)
	return out, is && len(out) <= 20 && len(slices.Compact(out)) == len(l)
}

func refNumber(o map[string]any, key string) (int64, bool) {
	s, is := o[key].(json.Number)
	n, err := strconv.ParseInt(string(s), 10, 64)
	return n, is && err == nil && refCount.MatchString(string(s))
}

func refShape(o map[string]any) bool {
	kind, sender, room := refText(o, "type"), refText(o, "sender"), refText(o, "room_id")
	if kind == "\xff" || len(kind) < 1 || len(kind) > 80 || !refUser.MatchString(sender) || !refRoom.MatchString(room) {
		return false
	}
	_, prev := refEdges(o, "prev_events")
	_, auth := refEdges(o, "auth_events")
	_, depth := refNumber(o, "depth")
	_, time := refNumber(o, "origin_server_ts")
	_, content := o["content"].(map[string]any)
	_, hashes := o["hashes"].(map[string]any)
	if !prev || !auth || !depth || !time || !content || !hashes {
		return false
	}
	if _, is := o["state_key"]; !is {
		return true
	}
	key, is := o["state_key"].(string)
	return is && len(key) <= 80
}

// refKept has a * where every key of the content is kept.
var refKept = map[string]string{
	"m.room.create":       "*",
	"m.room.member":       " membership ",
	"m.room.power_levels": " ban events events_default invite kick state_default users users_default ",
	"m.room.join_rules":   " join_rule ",
	"m.room.server_acl":   " allow deny ",
}

func refID(t *testing.T, o map[string]any) string {
	const stay = " auth_events content depth hashes origin_server_ts prev_events room_id sender state_key type "
	out, content := map[string]any{}, map[string]any{}
	for key, x := range o {
		if strings.Contains(stay, " "+key+" ") {
			out[key] = x
		}
	}
	of := refKept[o["type"].(string)]
	for key, x := range o["content"].(map[string]any) {
		if of == "*" || strings.Contains(of, " "+key+" ") {
			content[key] = x
		}
	}
	out["content"] = content
	return "$" + refSum(refPrint(t, out))
}

// refEvent is the event of an object's row of bytes; the error.
func refEvent(t *testing.T, s string) (api.Event, api.Errno) {
	t.Helper()
	o, is := refRead(t, s).(map[string]any)
	if !is || !refShape(o) {
		return api.Event{}, 15
	}
	if refDeep(o) > 32 {
		return api.Event{}, 12
	}
	if len(refPrint(t, o)) > 65536 {
		return api.Event{}, 3
	}
	sum, is := o["hashes"].(map[string]any)["sha256"].(string)
	if !is || sum != refHash(t, o) {
		return api.Event{}, 17
	}
	x := api.Event{ID: refID(t, o), Type: refText(o, "type"), Sender: refText(o, "sender"), Room: refText(o, "room_id")}
	for _, y := range o["prev_events"].([]any) {
		x.Prev = append(x.Prev, y.(string))
	}
	for _, y := range o["auth_events"].([]any) {
		x.Auth = append(x.Auth, y.(string))
	}
	x.Depth, _ = refNumber(o, "depth")
	x.Time, _ = refNumber(o, "origin_server_ts")
	x.Key, x.Is = o["state_key"].(string)
	x.Body = read(t, refPrint(t, o["content"]))
	return x, 0
}

// refBytes is the row of bytes of an event.
func refBytes(t *testing.T, x api.Event) string {
	o := map[string]any{
		"auth_events": append([]string{}, x.Auth...), "prev_events": append([]string{}, x.Prev...),
		"content": refRead(t, canon.Print(x.Body)), "depth": x.Depth, "origin_server_ts": x.Time,
		"room_id": x.Room, "sender": x.Sender, "type": x.Type,
	}
	if x.Is {
		o["state_key"] = x.Key
	}
	return refSealed(t, refPrint(t, o))
}

// read is the value of a row of bytes, which has to be one.
func read(t *testing.T, s string) api.Val {
	t.Helper()
	v, err, at := canon.Parse(s)
	if err != api.OK {
		t.Fatalf("%.200q: error %d at %d", s, err, at)
	}
	return v
}

// hold holds Read and Source of a row of bytes against what the chapter says,
// and, of an event, all that is made of it again. It tells the error.
func hold(t *testing.T, s string) api.Errno {
	t.Helper()
	v := read(t, s)
	before := told(v)
	want, err := refEvent(t, s)
	x, got := event.Read(v)
	if got != err || toldEvent(x) != toldEvent(want) {
		t.Fatalf("Read(%.600s) = %s, %d, want %s, %d", s, toldEvent(x), got, toldEvent(want), err)
	}
	if y, got := event.Source(s); got != err || toldEvent(y) != toldEvent(want) {
		t.Fatalf("Source(%.600s) = %s, %d, want %s, %d", s, toldEvent(y), got, toldEvent(want), err)
	}
	if told(v) != before {
		t.Fatalf("%.600s was changed", s)
	}
	if err == api.OK {
		holdMade(t, x)
	}
	return err
}

// holdMade holds what is made of an event against what the chapter says.
func holdMade(t *testing.T, x api.Event) {
	t.Helper()
	before := toldEvent(x)
	row := refBytes(t, x)
	if got := event.Bytes(x); got != row {
		t.Fatalf("Bytes(%s) = %s, want %s", before, got, row)
	}
	v := event.Make(x)
	if canon.Print(v) != row || !value.Right(v) || told(v) != told(read(t, row)) {
		t.Fatalf("Make(%s) = %s, want %s", before, told(v), row)
	}
	want, err := refEvent(t, row)
	if got, e := event.Read(v); e != err || toldEvent(got) != toldEvent(want) {
		t.Fatalf("Read of Make(%s) = %s, %d", before, toldEvent(got), e)
	}
	if err == api.OK {
		named := x
		named.ID = want.ID
		if got := event.Named(x); toldEvent(got) != toldEvent(named) || !event.Same(got, named) {
			t.Fatalf("Named(%s) = %s", before, toldEvent(got))
		}
		if event.Same(x, named) != (x.ID == want.ID) {
			t.Fatalf("Same of %s, and it by its name", before)
		}
	}
	if toldEvent(x) != before {
		t.Fatalf("%s was changed", before)
	}
}

// told is a text that two values share only if all of their fields are alike.
func told(v api.Val) string {
	var out strings.Builder
	out.WriteString("(" + strconv.Itoa(v.Kind) + " " + strconv.FormatInt(v.N, 10) + " " + strconv.Quote(v.Text) + " [")
	for _, k := range v.Keys {
		out.WriteString(strconv.Quote(k) + ",")
	}
	out.WriteString("] [")
	for _, x := range v.List {
		out.WriteString(told(x) + ",")
	}
	out.WriteString("])")
	return out.String()
}

func toldEvent(x api.Event) string {
	return fmt.Sprintf("%q %q %q %v %q %q %q %q %d %d %s", x.ID, x.Type, x.Key, x.Is, x.Sender, x.Room, x.Prev, x.Auth, x.Depth, x.Time, told(x.Body))
}

type area struct{ from, to uintptr }

// areas are all the pieces of memory that a value lies in.
func areas(v api.Val) []area {
	out := append(areasOfTexts(v.Text), areasOfList(v.Keys)...)
	out = append(out, areaOf(unsafe.Pointer(unsafe.SliceData(v.List)), uintptr(cap(v.List))*unsafe.Sizeof(api.Val{}))...)
	for _, x := range v.List {
		out = append(out, areas(x)...)
	}
	return out
}

func areasOfEvent(x api.Event) []area {
	out := areasOfTexts(x.ID, x.Type, x.Key, x.Sender, x.Room)
	out = append(out, areasOfList(x.Prev)...)
	out = append(out, areasOfList(x.Auth)...)
	return append(out, areas(x.Body)...)
}

func areasOfTexts(l ...string) []area {
	var out []area
	for _, s := range l {
		out = append(out, areaOf(unsafe.Pointer(unsafe.StringData(s)), uintptr(len(s)))...)
	}
	return out
}

func areasOfList(l []string) []area {
	return append(areasOfTexts(l...), areaOf(unsafe.Pointer(unsafe.SliceData(l)), uintptr(cap(l))*unsafe.Sizeof(""))...)
}

func areaOf(p unsafe.Pointer, size uintptr) []area {
	if size == 0 {
		return nil
	}
	return []area{{uintptr(p), uintptr(p) + size}}
}

func meet(a, b []area) bool {
	for _, x := range a {
		for _, y := range b {
			if x.from < y.to && y.from < x.to {
				return true
			}
		}
	}
	return false
}

// meetInside says whether two pieces of one answer share memory.
func meetInside(l []area) bool {
	for i := range l {
		if meet(l[i:i+1], l[i+1:]) {
			return true
		}
	}
	return false
}
