package value_test

import (
	"strings"
	"testing"

	"heliast/api"
	"heliast/value"
)

// long is a text in memory of its own.
func long(s string) string { return strings.Repeat(s, 20) }

// built is an object whose pieces all have memory of their own, and room behind
// their lists' lengths, in which something lies.
func built() api.Val {
	in := make([]api.Val, 2, 5)
	in[0], in[1] = text(long("p")), list(text(long("q")))
	in[:5][2] = text(long("behind"))
	names := make([]string, 3, 6)
	names[0], names[1], names[2] = long("a"), long("b"), long("c")
	names[:6][3] = long("behind")
	vals := make([]api.Val, 3, 6)
	vals[0], vals[1], vals[2] = text(long("x")), api.Val{Kind: api.List, List: in}, object(keys(long("k")), num(1))
	vals[:6][3] = text(long("behind"))
	return api.Val{Kind: api.Object, N: 1, Text: long("t"), Keys: names, List: vals}
}

// whole tells of a value what lies behind its lists' lengths, too.
func whole(v api.Val) string {
	v.Keys, v.List = v.Keys[:cap(v.Keys)], v.List[:cap(v.List)]
	out := told(api.Val{Kind: v.Kind, N: v.N, Text: v.Text, Keys: v.Keys})
	for _, x := range v.List {
		out += whole(x)
	}
	return out
}

// spoil writes into all that can be written into.
func spoil(v api.Val) {
	for i := range v.Keys[:cap(v.Keys)] {
		v.Keys[:cap(v.Keys)][i] = "spoilt"
	}
	for i, x := range v.List[:cap(v.List)] {
		spoil(x)
		v.List[:cap(v.List)][i] = text("spoilt")
	}
}

func TestMemory(t *testing.T) {
	calls := map[string]func(v, x api.Val) api.Val{
		"Copy":                  func(v, x api.Val) api.Val { return value.Copy(v) },
		"Get of a text":         func(v, x api.Val) api.Val { return got(v, long("a")) },
		"Get of a list":         func(v, x api.Val) api.Val { return got(v, long("b")) },
		"Get of an object":      func(v, x api.Val) api.Val { return got(v, long("c")) },
		"With in place":         func(v, x api.Val) api.Val { return value.With(v, long("b"), x) },
		"With ahead":            func(v, x api.Val) api.Val { return value.With(v, long("A"), x) },
		"With between":          func(v, x api.Val) api.Val { return value.With(v, long("ab"), x) },
		"With behind":           func(v, x api.Val) api.Val { return value.With(v, long("d"), x) },
		"With itself":           func(v, x api.Val) api.Val { return value.With(v, long("b"), v) },
		"With on no object":     func(v, x api.Val) api.Val { return value.With(v.List[0], long("d"), x) },
		"Without":               func(v, x api.Val) api.Val { return value.Without(v, long("b")) },
		"Without the last":      func(v, x api.Val) api.Val { return value.Without(v, long("c")) },
		"Without none":          func(v, x api.Val) api.Val { return value.Without(v, long("d")) },
		"Without, on no object": func(v, x api.Val) api.Val { return value.Without(v.List[1], long("d")) },
		"With, fewer keys": func(v, x api.Val) api.Val {
			v.Keys = v.Keys[:1]
			return value.With(v, long("d"), x)
		},
		"With, a shorter list": func(v, x api.Val) api.Val {
			v.List = v.List[:1]
			return value.With(v, long("d"), x)
		},
		"Without, a shorter list": func(v, x api.Val) api.Val {
			v.List = v.List[:1]
			return value.Without(v, long("a"))
		},
	}
	for name, call := range calls {
		v, x := built(), built()
		before := whole(v) + whole(x)
		first, second := call(v, x), call(v, x)
		answer := told(first)
		if whole(v)+whole(x) != before {
			t.Errorf("%s: what was handed in was changed", name)
		}
		if shares(first, v) || shares(first, x) || shares(first, second) || sharesItself(first) {
			t.Errorf("%s: the answer is no new memory", name)
		}
		if strings.Contains(whole(first), "behind") {
			t.Errorf("%s: what lies behind a list's length is handed out", name)
		}
		spoil(first)
		if whole(v)+whole(x) != before || told(second) != answer {
			t.Errorf("%s: what is written into an answer is seen elsewhere", name)
		}
		spoil(v)
		spoil(x)
		if told(second) != answer {
			t.Errorf("%s: an answer hangs on what was handed in", name)
		}
	}
}

func got(v api.Val, key string) api.Val {
	x, _ := value.Get(v, key)
	return x
}

func TestMemoryOfKeys(t *testing.T) {
	key := long("d")
	v := value.With(built(), key, num(1))
	if shares(v, text(key)) {
		t.Error("With keeps the key that was handed in")
	}
}

func TestMemoryOfMakers(t *testing.T) {
	s := long("s")
	if shares(value.Str(s), text(s)) {
		t.Error("Str shares its text")
	}
	l := make([]string, 2, 4)
	l[0], l[1] = s, s
	l[:4][2] = "behind"
	v := value.Texts(l)
	if shares(v, api.Val{Keys: l}) || sharesItself(v) {
		t.Error("Texts shares its texts")
	}
	if len(v.List) != 2 || strings.Contains(whole(v), "behind") || l[:4][2] != "behind" {
		t.Error("Texts goes behind the list's length")
	}
	before := told(v)
	l[0] = "spoilt"
	if told(v) != before {
		t.Error("Texts keeps its list")
	}
}

// TestZeroFields: what a kind does not have stays as it is made.
func TestZeroFields(t *testing.T) {
	for name, v := range map[string]api.Val{
		"Str":   value.Str("a"),
		"Num":   value.Num(1),
		"Texts": value.Texts([]string{"a"}).List[0],
		"Copy":  value.Copy(num(1)),
	} {
		if v.Keys != nil || v.List != nil {
			t.Errorf("%s: %#v", name, v)
		}
	}
	if x, is := value.Get(object(keys("a"), num(1)), "b"); is || x.Kind != 0 || x.N != 0 || x.Text != "" || x.Keys != nil || x.List != nil {
		t.Errorf("Get of nothing: %#v", x)
	}
}
