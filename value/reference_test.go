package value_test

import (
	"strconv"
	"strings"
	"unicode/utf8"
	"unsafe"

	"heliast/api"
)

// What the chapter says, written down a second time by other means: of whole
// values by texts that tell all of a value, of keys by pairs, one by one.

// told is a text that two values share only if all of their fields are alike.
func told(v api.Val) string {
	var out strings.Builder
	write := func(parts ...string) {
		for _, p := range parts {
			out.WriteString(p)
		}
	}
	write("(", strconv.Itoa(v.Kind), " ", strconv.FormatInt(v.N, 10), " ", strconv.Quote(v.Text), " [")
	for _, k := range v.Keys {
		write(strconv.Quote(k), ",")
	}
	write("] [")
	for _, x := range v.List {
		write(told(x), ",")
	}
	write("])")
	return out.String()
}

// refDeep asks level by level whether there is still something.
func refDeep(v api.Val) int {
	levels := 0
	for row := []api.Val{v}; ; levels++ {
		var next []api.Val
		held := false
		for _, x := range row {
			if x.Kind == 4 || x.Kind == 5 {
				held = true
				next = append(next, x.List...)
			}
		}
		if !held {
			return levels
		}
		row = next
	}
}

// refRight counts what is wrong with a value.
func refRight(v api.Val) bool {
	wrong := 0
	count := func(is bool) {
		if is {
			wrong++
		}
	}
	isKind := func(k int) bool { return v.Kind == k }
	count(v.Kind < 0)
	count(v.Kind > 5)
	count(isKind(1) && v.N != 0 && v.N != 1)
	count(isKind(2) && (v.N > 9007199254740991 || v.N < -9007199254740991))
	count(!isKind(1) && !isKind(2) && v.N != 0)
	count(!isKind(3) && len(v.Text) > 0)
	count(isKind(3) && !utf8.ValidString(v.Text))
	count(!isKind(5) && len(v.Keys) > 0)
	count(isKind(5) && len(v.Keys) != len(v.List))
	for i, k := range v.Keys {
		count(!utf8.ValidString(k))
		for _, other := range v.Keys[:i] {
			count(strings.Compare(other, k) >= 0)
		}
	}
	count(!isKind(4) && !isKind(5) && len(v.List) > 0)
	for _, x := range v.List {
		count(!refRight(x))
	}
	return wrong == 0
}

type pair struct {
	key string
	val api.Val
}

// refPairs are an object's keys with their values, as far as both go.
func refPairs(v api.Val) []pair {
	var out []pair
	for i := 0; i < len(v.Keys) && i < len(v.List); i++ {
		out = append(out, pair{v.Keys[i], v.List[i]})
	}
	return out
}

func refObject(v api.Val, l []pair) api.Val {
	out := api.Val{Kind: v.Kind, N: v.N, Text: v.Text}
	for _, p := range l {
		out.Keys = append(out.Keys, p.key)
		out.List = append(out.List, p.val)
	}
	return out
}

func refGet(v api.Val, key string) (api.Val, bool) {
	for i := 0; v.Kind == 5 && i < len(v.Keys); i++ {
		if v.Keys[i] == key {
			if i >= len(v.List) {
				return api.Val{}, false
			}
			return v.List[i], true
		}
	}
	return api.Val{}, false
}

func refWith(v api.Val, key string, x api.Val) api.Val {
	if v.Kind != 5 {
		return api.Val{Kind: 5, Keys: []string{key}, List: []api.Val{x}}
	}
	_, there := refGet(v, key)
	var out []pair
	done := false
	for _, p := range refPairs(v) {
		switch {
		case done:
		case there && p.key == key:
			p.val, done = x, true
		case !there && !(p.key < key):
			out, done = append(out, pair{key, x}), true
		}
		out = append(out, p)
	}
	if !done {
		out = append(out, pair{key, x})
	}
	return refObject(v, out)
}

func refWithout(v api.Val, key string) api.Val {
	if _, there := refGet(v, key); !there {
		return v
	}
	var out []pair
	gone := false
	for _, p := range refPairs(v) {
		if p.key == key && !gone {
			gone = true
			continue
		}
		out = append(out, p)
	}
	return refObject(v, out)
}

// eachList calls do with each list of up to most of the given things.
func eachList[T any](of []T, most int, do func(l []T)) {
	var grow func(l []T)
	grow = func(l []T) {
		do(l)
		if len(l) == most {
			return
		}
		for _, x := range of {
			grow(append(l[:len(l):len(l)], x))
		}
	}
	grow(nil)
}

// smalls are values of each Kind, and of some that are none, right and wrong.
func smalls() []api.Val {
	const edge = 1<<53 - 1
	var out []api.Val
	for kind := -1; kind <= 6; kind++ {
		for _, n := range []int64{0, 1, -1, 2, edge, edge + 1, -edge, -edge - 1, 1<<63 - 1, -1 << 63} {
			out = append(out, api.Val{Kind: kind, N: n})
		}
		for _, s := range []string{"a", "\x00", "\u00e9", "\ufffd", "\xff", "a\xc3", "\xed\xa0\x80"} {
			out = append(out, api.Val{Kind: kind, Text: s})
		}
	}
	return append(out, api.Val{Kind: 1 << 62}, api.Val{Kind: -1 << 63}, api.Val{Kind: 3, Text: "a", N: 1}, api.Val{Kind: 2, Text: "a", N: 1})
}

// nests are values with keys, and with others in them, right and wrong.
func nests() []api.Val {
	inner := []api.Val{
		{Kind: 2, N: 7},
		{Kind: 9},
		{Kind: 4, List: []api.Val{{Kind: 5}}},
	}
	var out []api.Val
	eachList([]string{"", "a", "b", "c\xff"}, 3, func(keys []string) {
		eachList(inner, 3, func(list []api.Val) {
			for kind := 3; kind <= 6; kind++ {
				out = append(out, api.Val{Kind: kind, Keys: keys, List: list})
			}
		})
	})
	return append(out, api.Val{Kind: 5, N: 3, Text: "t", Keys: []string{"a", "b"}, List: inner[:1]},
		api.Val{Kind: 5, N: 3, Text: "t", Keys: []string{"a"}, List: inner},
		api.Val{Kind: 0, Keys: []string{"a"}}, api.Val{Kind: 0, List: inner[:1]}, api.Val{Kind: 1, List: inner[:1]}, api.Val{Kind: 2, List: inner[:1]})
}

func all() []api.Val { return append(smalls(), nests()...) }

// nested is a value of n lists and objects in one another, in's inside.
func nested(n int, in api.Val) api.Val {
	v := in
	for i := range n {
		next := api.Val{Kind: 4, List: []api.Val{v}}
		if i%2 == 1 {
			next.Kind, next.Keys = 5, []string{"k"}
		}
		v = next
	}
	return v
}

type area struct{ from, to uintptr }

// areas are all the pieces of memory that a value lies in.
func areas(v api.Val) []area {
	var out []area
	add := func(p unsafe.Pointer, size uintptr) {
		if size > 0 {
			out = append(out, area{uintptr(p), uintptr(p) + size})
		}
	}
	text := func(s string) { add(unsafe.Pointer(unsafe.StringData(s)), uintptr(len(s))) }
	text(v.Text)
	add(unsafe.Pointer(unsafe.SliceData(v.Keys)), uintptr(cap(v.Keys))*unsafe.Sizeof(""))
	add(unsafe.Pointer(unsafe.SliceData(v.List)), uintptr(cap(v.List))*unsafe.Sizeof(api.Val{}))
	for _, k := range v.Keys {
		text(k)
	}
	for _, x := range v.List {
		out = append(out, areas(x)...)
	}
	return out
}

// shares says whether two values lie in one another's memory.
func shares(a, b api.Val) bool {
	for _, x := range areas(a) {
		for _, y := range areas(b) {
			if x.from < y.to && y.from < x.to {
				return true
			}
		}
	}
	return false
}

// sharesItself says whether two pieces of one value's memory lie in one another.
func sharesItself(v api.Val) bool {
	l := areas(v)
	for i, x := range l {
		for _, y := range l[:i] {
			if x.from < y.to && y.from < x.to {
				return true
			}
		}
	}
	return false
}
