package event_test

import (
	"maps"
	"math/rand"
	"slices"
	"strconv"
	"strings"
	"testing"

	"heliast/api"
	"heliast/canon"
	"heliast/event"
	"heliast/redact"
	"heliast/value"
)

// name is the name of something that hangs on n.
func name(n int) string { return "$" + refSum(strconv.Itoa(n)) }

// edgesOf is the row of bytes of a list of n names.
func edgesOf(n int) string {
	var l []string
	for i := range n {
		l = append(l, strconv.Quote(name(i)))
	}
	return "[" + strings.Join(l, ",") + "]"
}

func quoted(s string) string { return canon.Print(value.Str(s)) }

// base are the fields of an event, each as a row of bytes.
func base() map[string]string {
	return map[string]string{
		"auth_events": edgesOf(2), "content": `{"x":1}`, "depth": `3`, "origin_server_ts": `4`, "prev_events": edgesOf(3),
		"room_id": `"!r:b"`, "sender": `"@a:b"`, "type": `"t"`, "state_key": `"k"`,
	}
}

func object(of map[string]string) string {
	var parts []string
	for key, x := range of {
		parts = append(parts, quoted(key)+":"+x)
	}
	return "{" + strings.Join(parts, ",") + "}"
}

// changed is a row of bytes of an event with other fields (nothing: it is left
// out), sealed, but if its hashes are among them.
func changed(t *testing.T, pairs ...string) string {
	t.Helper()
	of := base()
	for i := 0; i < len(pairs); i += 2 {
		of[pairs[i]] = pairs[i+1]
		if pairs[i+1] == "" {
			delete(of, pairs[i])
		}
	}
	if _, is := of["hashes"]; is || slices.Contains(pairs, "hashes") {
		return object(of)
	}
	return refSealed(t, object(of))
}

// otherKinds are some of each kind; of each field those of its own kind are
// told on their own.
var otherKinds = []string{`null`, `true`, `false`, `0`, `7`, `"0"`, `"x"`, `[]`, `["t"]`, `[["t"]]`, `[{}]`, `{}`, `{"0":"t"}`}

func fill(s string, n int) string { return strings.Repeat(s, n) }

// rightFields are such as an event may have, by their keys.
func rightFields() map[string][]string {
	return map[string][]string{
		"type":             {`"t"`, `"m.room.create"`, `" "`, `"\u0000"`, `"0"`, `"x"`, quoted(fill("t", 80)), quoted(fill("\u00e9", 40)), quoted(fill("\U0001f600", 20)), quoted(fill("\x01", 80))},
		"sender":           {`"@a:b"`, `"@0:0"`, `"@._=-/az09:.-az09"`, quoted("@" + fill("a", 40) + ":" + fill("b", 40)), `"@a:b.c-d"`},
		"room_id":          {`"!r:b"`, `"!0:0"`, `"!._=-/az09:.-az09"`, quoted("!" + fill("a", 40) + ":" + fill("b", 40))},
		"prev_events":      {`[]`, edgesOf(1), edgesOf(2), edgesOf(19), edgesOf(20), `["$` + fill("A", 43) + `"]`, `["$` + fill("-", 42) + `8","$` + fill("_", 42) + `w"]`},
		"auth_events":      {`[]`, edgesOf(1), edgesOf(2), edgesOf(19), edgesOf(20), `["$` + fill("A", 43) + `"]`, `["$` + fill("-", 42) + `8","$` + fill("_", 42) + `w"]`},
		"depth":            {`0`, `1`, `7`, `300`, `9007199254740991`},
		"origin_server_ts": {`0`, `1`, `7`, `1795000000000`, `9007199254740991`},
		"content":          {`{}`, `{"0":"t"}`, `{"type":7,"content":[],"hashes":null}`, `{"":{"":{"":""}}}`, `{"membership":"join"}`},
		"state_key":        {``, `""`, `"k"`, `"0"`, `"x"`, `"@a:b"`, quoted(fill("k", 80)), quoted(fill("\u00e9", 40)), quoted(fill("\U0001f600", 20)), quoted(fill("\x01", 80))},
	}
}

func wrongNames() []string {
	return []string{`""`, `"@"`, `"!"`, `"@a"`, `"!a"`, `"@a:"`, `"!a:"`, `"@:b"`, `"!:b"`, `"a:b"`, `"#a:b"`, `"@A:b"`, `"!A:b"`, `"@a:B"`, `"!a:B"`, `"@a:b:c"`, `"!a:b:c"`, `"@a:b "`, `" @a:b"`, `"@a:b/"`, `"@\u00e9:b"`,
		quoted("@" + fill("a", 41) + ":b"), quoted("!" + fill("a", 41) + ":b"), quoted("@a:" + fill("b", 41)), quoted("!a:" + fill("b", 41)), quoted(fill("\u00e9", 3)), `"$` + fill("A", 43) + `"`}
}

func wrongEdges() []string {
	one := quoted(name(1))
	return []string{edgesOf(21), edgesOf(40), `[` + one + `,` + one + `]`, strings.Replace(edgesOf(20), quoted(name(19)), quoted(name(0)), 1), `[` + one + `,` + quoted(name(2)) + `,` + one + `]`,
		`[""]`, `["$"]`, `["` + fill("A", 43) + `"]`, `["$` + fill("A", 42) + `"]`, `["$` + fill("A", 44) + `"]`, `["$` + fill("A", 42) + `B"]`, `["$` + fill("A", 42) + `+"]`, `["$` + fill("A", 42) + `="]`, `["$` + fill("A", 43) + `="]`, `["$$` + fill("A", 42) + `"]`,
		`[null]`, `[` + one + `,null]`, `[7]`, `[[` + one + `]]`, `[{"x":` + one + `}]`, `[` + one + `,""]`, `[` + one + `,"x"]`, one, `{` + one + `:` + one + `}`, quoted("$" + fill("A", 43))}
}

// wrongFields are such as no event may have, by their keys (nothing: there is
// none).
func wrongFields() map[string][]string {
	return map[string][]string{
		"type":             {``, `""`, quoted(fill("t", 81)), quoted(fill("\u00e9", 40) + "t"), quoted(fill("\U0001f600", 20) + "t"), quoted(fill("\x01", 81)), quoted(fill("t", 2000))},
		"sender":           append(wrongNames(), ``, `"!r:b"`),
		"room_id":          append(wrongNames(), ``, `"@a:b"`),
		"prev_events":      append(wrongEdges(), ``),
		"auth_events":      append(wrongEdges(), ``),
		"depth":            {``, `-1`, `-7`, `-9007199254740991`},
		"origin_server_ts": {``, `-1`, `-7`, `-9007199254740991`},
		"content":          {``, `[{}]`},
		"state_key":        {quoted(fill("k", 81)), quoted(fill("\u00e9", 40) + "k"), quoted(fill("\x01", 81)), quoted(fill("k", 2000))},
	}
}

func TestReadFields(t *testing.T) {
	for key, l := range rightFields() {
		for _, x := range l {
			if err := hold(t, changed(t, key, x)); err != api.OK {
				t.Errorf("%s %s: error %d", key, x, err)
			}
		}
		for _, x := range otherKinds {
			if err := hold(t, changed(t, key, x)); (err == api.OK) != slices.Contains(l, x) || err != api.OK && err != api.ErrShape {
				t.Errorf("%s %s: error %d", key, x, err)
			}
		}
	}
	for key, l := range wrongFields() {
		for _, x := range l {
			if err := hold(t, changed(t, key, x)); err != api.ErrShape {
				t.Errorf("%s %s: error %d", key, x, err)
			}
		}
	}
	for _, x := range append(otherKinds, ``) {
		want := api.ErrShape
		if strings.HasPrefix(x, "{") {
			want = api.ErrHash
		}
		if err := hold(t, changed(t, "hashes", x)); err != want {
			t.Errorf("hashes %s: error %d", x, err)
		}
	}
}

// TestReadRight: what right fields tell, together, in each pair of two.
func TestReadRight(t *testing.T) {
	fields := rightFields()
	keys := slices.Sorted(maps.Keys(fields))
	for i, one := range keys {
		for _, two := range keys[:i] {
			for n, x := range fields[one] {
				y := fields[two][n%len(fields[two])]
				if err := hold(t, changed(t, one, x, two, y)); err != api.OK {
					t.Errorf("%s %s, %s %s: error %d", one, x, two, y, err)
				}
			}
		}
	}
}

func TestReadNoObject(t *testing.T) {
	for _, s := range append(otherKinds, `[`+changed(t)+`]`, quoted(changed(t)), `{"x":`+changed(t)+`}`, `{"content":`+changed(t)+`}`) {
		if err := hold(t, s); err != api.ErrShape {
			t.Errorf("%s: error %d", s, err)
		}
	}
}

// TestReadOtherKeys: other keys are not told, but the hash hangs on them.
func TestReadOtherKeys(t *testing.T) {
	bare, _ := event.Source(changed(t))
	for _, key := range []string{"", " ", "unsigned", "signatures", "event_id", "id", "origin", "redacts", "Type", "types", "state_keys", "hash", "\u00e9", "zz"} {
		for _, x := range otherKinds {
			s := changed(t, key, x)
			if err := hold(t, s); err != api.OK {
				t.Fatalf("%q %s: error %d", key, x, err)
			}
			more, _ := event.Source(s)
			if (more.ID == bare.ID) != (key == "unsigned") {
				t.Errorf("%q %s: the name is %s, without %s", key, x, more.ID, bare.ID)
			}
			more.ID = bare.ID
			if !event.Same(more, bare) {
				t.Errorf("%q %s is told: %s", key, x, toldEvent(more))
			}
		}
	}
	// One of an event's fields by another one's key does not stand in for it.
	for key := range base() {
		err := hold(t, changed(t, key, ``, key+" ", base()[key]))
		if want := map[bool]api.Errno{true: api.OK, false: api.ErrShape}[key == "state_key"]; err != want {
			t.Errorf("%s in another place: error %d", key, err)
		}
	}
}

func TestReadHash(t *testing.T) {
	s := changed(t, "unsigned", `{"age":1}`)
	v := read(t, s)
	sum := redact.Hash(v)
	// Another field than the one that was sealed.
	for key, l := range rightFields() {
		for _, x := range append(l, base()[key]) {
			other := value.Without(v, key)
			if x != `` {
				other = value.With(v, key, read(t, x))
			}
			want := api.ErrHash
			if value.Same(other, v) {
				want = api.OK
			}
			if err := hold(t, canon.Print(other)); err != want {
				t.Errorf("%s %s behind its seal: error %d", key, x, err)
			}
		}
	}
	for _, x := range append(otherKinds, changed(t)) {
		if err := hold(t, canon.Print(value.With(v, "unsigned", read(t, x)))); err != api.OK {
			t.Errorf("unsigned %s: error %d", x, err)
		}
		if err := hold(t, canon.Print(value.With(v, "more", read(t, x)))); err != api.ErrHash {
			t.Errorf("more %s: error %d", x, err)
		}
		if err := hold(t, canon.Print(value.With(v, "hashes", value.With(api.Val{}, "sha256", read(t, x))))); err != api.ErrHash {
			t.Errorf("sha256 %s: error %d", x, err)
		}
	}
	right := value.Str(sum)
	for _, c := range []struct {
		hashes api.Val
		want   api.Errno
	}{
		{value.With(api.Val{}, "sha256", right), api.OK},
		{value.With(value.With(api.Val{}, "sha256", right), "md5", value.Num(1)), api.OK},
		{value.With(value.With(api.Val{}, "sha256", right), "z", api.Val{}), api.OK},
		{value.With(api.Val{}, "sha512", right), api.ErrHash},
		{value.With(api.Val{}, "sha256", value.Str(sum+"=")), api.ErrHash},
		{value.With(api.Val{}, "sha256", value.Str("$"+sum)), api.ErrHash},
		{value.With(api.Val{}, "sha256", value.Str(sum[:42])), api.ErrHash},
		{value.With(api.Val{}, "sha256", value.Texts([]string{sum})), api.ErrHash},
		{right, api.ErrShape},
		{value.Texts([]string{sum}), api.ErrShape},
	} {
		if err := hold(t, canon.Print(value.With(v, "hashes", c.hashes))); err != c.want {
			t.Errorf("hashes %s: error %d", canon.Print(c.hashes), err)
		}
	}
}

// TestReadRedacted: what was redacted has its name still, but is read only if
// nothing was lost.
func TestReadRedacted(t *testing.T) {
	for _, c := range []struct {
		kind, content string
		want          api.Errno
	}{
		{"t", `{}`, api.OK}, {"t", `{"x":1}`, api.ErrHash},
		{"m.room.create", `{"x":1}`, api.OK},
		{"m.room.member", `{"membership":"join"}`, api.OK}, {"m.room.member", `{"membership":"join","x":1}`, api.ErrHash},
		{"m.room.power_levels", `{"ban":50,"users":{"@a:b":100}}`, api.OK}, {"m.room.power_levels", `{"bans":50}`, api.ErrHash},
		{"m.room.join_rules", `{"join_rule":"public"}`, api.OK}, {"m.room.server_acl", `{"allow":["*"],"deny":[]}`, api.OK},
	} {
		s := changed(t, "type", quoted(c.kind), "content", c.content)
		hold(t, s)
		once := redact.Redact(read(t, s))
		if err := hold(t, canon.Print(once)); err != c.want {
			t.Errorf("%s %s: error %d", c.kind, c.content, err)
		}
		if x, _ := event.Source(s); x.ID != redact.ID(once) {
			t.Errorf("%s %s has another name when it is redacted", c.kind, c.content)
		}
	}
}

// nested is a value that n lists, or objects, lie in one another.
func nested(n int, lists bool) api.Val {
	v := api.Val{Kind: api.Int, N: 1}
	for range n {
		if lists {
			v = api.Val{Kind: api.List, List: []api.Val{{}, v}}
		} else {
			v = value.With(api.Val{}, "k", v)
		}
	}
	return v
}

func TestReadDeep(t *testing.T) {
	v := read(t, changed(t))
	for _, lists := range []bool{true, false} {
		for n := 28; n < 36; n++ {
			want := api.OK
			if n+1 > api.MaxDepth {
				want = api.ErrDeep
			}
			for _, key := range []string{"unsigned", "more"} {
				deep := redact.Sealed(value.With(v, key, nested(n, lists)))
				if _, err := event.Read(deep); err != want {
					t.Errorf("%d in %s: error %d", n, key, err)
				}
			}
			// An object is what content has to be: one level lies around it.
			deep := redact.Sealed(value.With(v, "content", value.With(api.Val{}, "in", nested(n-1, lists))))
			if _, err := event.Read(deep); err != want {
				t.Errorf("%d in content: error %d", n, err)
			}
			hashes, _ := value.Get(v, "hashes")
			deep = value.With(v, "hashes", value.With(hashes, "more", nested(n-1, lists)))
			if _, err := event.Read(deep); err != want {
				t.Errorf("%d in hashes: error %d", n, err)
			}
			if want == api.OK {
				hold(t, canon.Print(deep))
			}
		}
	}
	if _, err := event.Read(value.With(v, "unsigned", nested(1<<14, true))); err != api.ErrDeep {
		t.Errorf("very deep: error %d", err)
	}
}

// padded is an event whose row of bytes has n bytes, by a text of a sign that
// takes some bytes in a row.
func padded(t *testing.T, n int, in, sign string, takes int) api.Val {
	t.Helper()
	v := read(t, changed(t, "type", `"m.room.create"`))
	pad := func(s string) api.Val {
		if in == "content" {
			return redact.Sealed(value.With(v, in, value.With(api.Val{}, "pad", value.Str(s))))
		}
		return redact.Sealed(value.With(v, in, value.Str(s)))
	}
	left := n - len(canon.Print(pad("")))
	out := pad(fill(sign, left/takes) + fill("a", left%takes))
	if got := len(canon.Print(out)); got != n {
		t.Fatalf("%d bytes, want %d", got, n)
	}
	return out
}

func TestReadLong(t *testing.T) {
	for _, in := range []string{"content", "unsigned", "more"} {
		for _, c := range []struct {
			sign  string
			takes int
		}{{"a", 1}, {`"`, 2}, {"\n", 2}, {"\x01", 6}, {"\u00e9", 2}, {"\U0001f600", 4}} {
			for n := api.MaxEvent - 3; n < api.MaxEvent+4; n++ {
				want := api.OK
				if n > api.MaxEvent {
					want = api.ErrLong
				}
				v := padded(t, n, in, c.sign, c.takes)
				if _, err := event.Read(v); err != want {
					t.Errorf("%d bytes of %q in %s: error %d", n, c.sign, in, err)
				}
				if _, err := event.Source(canon.Print(v)); err != want {
					t.Errorf("Source of %d bytes of %q in %s: error %d", n, c.sign, in, err)
				}
			}
		}
		hold(t, canon.Print(padded(t, api.MaxEvent, in, "a", 1)))
	}
}

// TestReadOrder: of several errors the first one is told, whichever of them
// there are.
func TestReadOrder(t *testing.T) {
	long := value.Str(fill("a", api.MaxEvent))
	for set := range 1 << 4 {
		shape, deep, tall, hash := set&1 > 0, set&2 > 0, set&4 > 0, set&8 > 0
		v := read(t, changed(t))
		if shape {
			v = value.With(v, "depth", value.Num(-1))
		}
		if deep {
			v = value.With(v, "more", nested(40, true))
		}
		if tall {
			v = value.With(v, "most", long)
		}
		v = redact.Sealed(v)
		if hash {
			v = value.With(v, "moss", value.Num(1))
		}
		want := api.OK
		switch {
		case shape:
			want = api.ErrShape
		case deep:
			want = api.ErrDeep
		case tall:
			want = api.ErrLong
		case hash:
			want = api.ErrHash
		}
		x, err := event.Read(v)
		if err != want || (err != api.OK) != (toldEvent(x) == toldEvent(api.Event{})) {
			t.Errorf("shape %v, deep %v, long %v, hash %v: error %d, %.100s", shape, deep, tall, hash, err, toldEvent(x))
		}
	}
}

func TestSource(t *testing.T) {
	s := changed(t)
	for _, c := range []struct {
		name, s string
		want    api.Errno
	}{
		{"as it is", s, api.OK},
		{"blanks around", " \t\r\n" + s + "\n", api.OK},
		{"blanks around each colon, those of names too", strings.ReplaceAll(s, ":", " : "), api.ErrShape},
		{"blanks around each colon but those of names", strings.ReplaceAll(s, `":`, "\" :\n"), api.OK},
		{"a blank behind each comma", strings.ReplaceAll(s, `,"`, `, "`), api.OK},
		{"an escape", strings.Replace(s, `"t"`, `"\u0074"`, 1), api.OK},
		{"blanks up to the most", s + fill(" ", api.MaxEvent-len(s)), api.OK},
		{"one blank too many", s + fill(" ", api.MaxEvent+1-len(s)), api.ErrLong},
		{"too long, and no UTF-8", s + fill("\xff", api.MaxEvent), api.ErrLong},
		{"nothing", "", api.ErrJSON},
		{"no UTF-8", strings.Replace(s, `"t"`, "\"t\xff\"", 1), api.ErrUtf},
		{"no UTF-8 behind", s + "\xc3", api.ErrUtf},
		{"cut", s[:len(s)-1], api.ErrJSON},
		{"something behind", s + "x", api.ErrJSON},
		{"two of them", s + s, api.ErrJSON},
		{"too deep", `{"a":` + fill("[", 32) + fill("]", 32) + `}`, api.ErrDeep},
		{"as deep as may be, no event", `{"a":` + fill("[", 31) + fill("]", 31) + `}`, api.ErrShape},
		{"a fraction", strings.Replace(s, `"depth":3`, `"depth":3.0`, 1), api.ErrRange},
		{"a great number", strings.Replace(s, `"depth":3`, `"depth":9007199254740992`, 1), api.ErrRange},
		{"the greatest number", strings.Replace(s, `"depth":3`, `"depth":9007199254740991`, 1), api.ErrHash},
		{"a number below nought", strings.Replace(s, `"depth":3`, `"depth":-3`, 1), api.ErrShape},
		{"a key twice", strings.Replace(s, `"depth":3`, `"depth":3,"depth":3`, 1), api.ErrTwice},
		{"a key twice, no event", `{"x":1,"x":1}`, api.ErrTwice},
		{"no object", `[]`, api.ErrShape},
		{"another hash", strings.Replace(s, `"depth":3`, `"depth":4`, 1), api.ErrHash},
	} {
		x, err := event.Source(c.s)
		if err != c.want || (err != api.OK) != (toldEvent(x) == toldEvent(api.Event{})) {
			t.Errorf("%s: error %d, want %d: %s", c.name, err, c.want, toldEvent(x))
		}
		if y, _ := event.Source(s); err == api.OK && !event.Same(x, y) {
			t.Errorf("%s is another event", c.name)
		}
		if v, e, _ := canon.Parse(c.s); e != api.OK && e != err {
			t.Errorf("%s: error %d, that of Parse is %d", c.name, err, e)
		} else if y, f := event.Read(v); e == api.OK && (f != err || toldEvent(y) != toldEvent(x)) {
			t.Errorf("%s: Read tells another", c.name)
		}
	}
}

// TestDrawn: events whose fields are drawn, mostly right ones.
func TestDrawn(t *testing.T) {
	from := rand.New(rand.NewSource(1))
	pick := func(of []string) string { return of[from.Intn(len(of))] }
	right, wrong := rightFields(), wrongFields()
	keys := slices.Sorted(maps.Keys(right))
	kinds := []string{`"m.room.create"`, `"m.room.member"`, `"m.room.power_levels"`, `"m.room.join_rules"`, `"m.room.server_acl"`, `"t"`}
	contents := []string{`{"membership":"join","x":{"y":[]}}`, `{"users":{"@a:b":100},"ban":7}`, `{"join_rule":"public","allow":1}`, `{"allow":["*"],"deny":["a"],"x":-1}`}
	seen := map[api.Errno]int{}
	for range 3000 {
		pairs := []string{"type", pick(kinds), "content", pick(contents)}
		for _, key := range keys {
			switch n := from.Intn(20); {
			case n < 10:
				pairs = append(pairs, key, pick(right[key]))
			case n == 10 && from.Intn(6) == 0:
				pairs = append(pairs, key, pick(wrong[key]))
			case n == 11 && from.Intn(6) == 0:
				pairs = append(pairs, key, pick(otherKinds))
			}
		}
		s := changed(t, pairs...)
		if from.Intn(6) == 0 {
			v := read(t, s)
			key := pick(keys)
			if x := pick(right[key]); x != `` {
				s = canon.Print(value.With(v, key, read(t, x)))
			}
		}
		seen[hold(t, s)]++
	}
	if seen[api.OK] < 500 || seen[api.ErrShape] < 100 || seen[api.ErrHash] < 100 {
		t.Errorf("too little was drawn: %v", seen)
	}
}
