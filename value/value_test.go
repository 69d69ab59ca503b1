package value_test

import (
	"testing"

	"heliast/api"
	"heliast/value"
)

const edge = 1<<53 - 1

func object(keys []string, list ...api.Val) api.Val {
	return api.Val{Kind: api.Object, Keys: keys, List: list}
}

func list(of ...api.Val) api.Val { return api.Val{Kind: api.List, List: of} }

func num(n int64) api.Val { return api.Val{Kind: api.Int, N: n} }

func text(s string) api.Val { return api.Val{Kind: api.Text, Text: s} }

func keys(l ...string) []string { return l }

func TestSame(t *testing.T) {
	for _, c := range []struct {
		a, b api.Val
		want bool
	}{
		{api.Val{}, api.Val{}, true},
		{api.Val{}, api.Val{Kind: api.Truth}, false},
		{api.Val{Kind: api.Truth}, api.Val{Kind: api.Truth, N: 1}, false},
		{num(1), num(1), true},
		{num(1), num(2), false},
		{num(0), api.Val{Kind: api.Truth}, false},
		{text("a"), text("a"), true},
		{text("a"), text("b"), false},
		{text("a"), text("a\x00"), false},
		{text("\xff"), text("\ufffd"), false},
		{list(), list(), true},
		{list(), object(nil), false},
		{list(num(1), num(2)), list(num(1), num(2)), true},
		{list(num(1), num(2)), list(num(2), num(1)), false},
		{list(num(1)), list(num(1), num(1)), false},
		{list(num(1), num(1)), list(num(1)), false},
		{list(list(num(1))), list(list(num(1))), true},
		{list(list(num(1))), list(list(num(2))), false},
		{list(list(num(1))), list(num(1)), false},
		{object(keys("a"), num(1)), object(keys("a"), num(1)), true},
		{object(keys("a"), num(1)), object(keys("b"), num(1)), false},
		{object(keys("a"), num(1)), object(keys("a"), num(2)), false},
		{object(keys("a", "b"), num(1), num(2)), object(keys("b", "a"), num(2), num(1)), false},
		{object(keys("a", "b")), object(keys("a")), false},
		{object(keys("a")), object(keys("a", "b")), false},
		{api.Val{Kind: 9, N: 3, Text: "x"}, api.Val{Kind: 9, N: 3, Text: "x"}, true},
		{api.Val{N: 1}, api.Val{}, false},
		{api.Val{Text: "x"}, api.Val{}, false},
		{api.Val{Keys: keys("x")}, api.Val{}, false},
		{api.Val{List: []api.Val{{}}}, api.Val{}, false},
		{api.Val{Kind: api.List, List: []api.Val{}}, api.Val{Kind: api.List, List: nil}, true},
		{api.Val{Kind: api.Object, Keys: []string{}}, api.Val{Kind: api.Object}, true},
	} {
		if got := value.Same(c.a, c.b); got != c.want {
			t.Errorf("Same(%s, %s) = %v", told(c.a), told(c.b), got)
		}
	}
}

func TestSameOfAll(t *testing.T) {
	values := all()
	texts := make([]string, len(values))
	for i, v := range values {
		texts[i] = told(v)
	}
	for i, a := range values {
		for j := i % 7; j < len(values); j += 7 {
			if got := value.Same(a, values[j]); got != (texts[i] == texts[j]) {
				t.Fatalf("Same(%s, %s) = %v", texts[i], texts[j], got)
			}
		}
	}
}

func TestRight(t *testing.T) {
	for _, c := range []struct {
		name string
		v    api.Val
		want bool
	}{
		{"null", api.Val{}, true},
		{"no", api.Val{Kind: api.Truth, N: 0}, true},
		{"yes", api.Val{Kind: api.Truth, N: 1}, true},
		{"a truth of 2", api.Val{Kind: api.Truth, N: 2}, false},
		{"a truth of -1", api.Val{Kind: api.Truth, N: -1}, false},
		{"0", num(0), true},
		{"the greatest", num(edge), true},
		{"one beyond", num(edge + 1), false},
		{"the least", num(-edge), true},
		{"one below", num(-edge - 1), false},
		{"the greatest of 64 bits", num(1<<63 - 1), false},
		{"the least of 64 bits", num(-1 << 63), false},
		{"a text", text("a\u00e9"), true},
		{"an empty text", text(""), true},
		{"a text of U+FFFD", text("\ufffd"), true},
		{"a text that is no UTF-8", text("a\xff"), false},
		{"a text cut short", text("a\xc3"), false},
		{"a text of a half", text("\xed\xa0\x80"), false},
		{"a text with a number", api.Val{Kind: api.Text, Text: "a", N: 1}, false},
		{"a text with a key", api.Val{Kind: api.Text, Keys: keys("a")}, false},
		{"a text with a list", api.Val{Kind: api.Text, List: []api.Val{{}}}, false},
		{"null with a number", api.Val{N: 1}, false},
		{"null with a text", api.Val{Text: "a"}, false},
		{"null with a key", api.Val{Keys: keys("")}, false},
		{"null with a list", api.Val{List: []api.Val{{}}}, false},
		{"a truth with a list", api.Val{Kind: api.Truth, List: []api.Val{{}}}, false},
		{"a number with a text", api.Val{Kind: api.Int, Text: "1"}, false},
		{"a number with a list", api.Val{Kind: api.Int, List: []api.Val{{}}}, false},
		{"an empty list", list(), true},
		{"a list", list(num(1), text("a"), api.Val{}), true},
		{"a list in a list", list(list(list(num(1)))), true},
		{"a list with a wrong one", list(num(1), num(edge+1)), false},
		{"a list with a wrong one deep in it", list(list(list(text("\xff")))), false},
		{"a list with a wrong one ahead", list(api.Val{Kind: 9}, num(1)), false},
		{"a list with a key", api.Val{Kind: api.List, Keys: keys("a"), List: []api.Val{{}}}, false},
		{"a list with a number", api.Val{Kind: api.List, N: 1}, false},
		{"a list with a text", api.Val{Kind: api.List, Text: "a"}, false},
		{"an empty object", object(nil), true},
		{"an object", object(keys("a", "b"), num(1), num(2)), true},
		{"an object with an empty key", object(keys("", "a"), num(1), num(2)), true},
		{"keys that one begins with the other", object(keys("a", "ab"), num(1), num(2)), true},
		{"keys by bytes", object(keys("Z", "a", "\uffff", "\U00010000"), num(1), num(2), num(3), num(4)), true},
		{"keys that fall", object(keys("b", "a"), num(1), num(2)), false},
		{"keys that fall at the end", object(keys("a", "c", "b"), num(1), num(2), num(3)), false},
		{"a key twice", object(keys("a", "a"), num(1), num(1)), false},
		{"an empty key twice", object(keys("", ""), num(1), num(1)), false},
		{"more keys", object(keys("a", "b"), num(1)), false},
		{"fewer keys", object(keys("a"), num(1), num(2)), false},
		{"a list without keys", object(nil, num(1)), false},
		{"keys without a list", object(keys("a")), false},
		{"a key that is no UTF-8", object(keys("\xff"), num(1)), false},
		{"a later key that is no UTF-8", object(keys("a", "b\xc3"), num(1), num(2)), false},
		{"an object with a number", api.Val{Kind: api.Object, N: 1}, false},
		{"an object with a text", api.Val{Kind: api.Object, Text: "a"}, false},
		{"an object with a wrong one", object(keys("a"), object(keys("b", "a"), num(1), num(2))), false},
		{"no kind, above", api.Val{Kind: 6}, false},
		{"no kind, below", api.Val{Kind: -1}, false},
		{"no kind, far above", api.Val{Kind: 1<<63 - 1}, false},
		{"no kind in a list", list(api.Val{Kind: 6}), false},
		{"empty lists that are not nil", api.Val{Kind: api.Null, Keys: []string{}, List: []api.Val{}}, true},
	} {
		if got := value.Right(c.v); got != c.want {
			t.Errorf("%s: Right(%s) = %v", c.name, told(c.v), got)
		}
	}
}

func TestRightOfAll(t *testing.T) {
	for _, v := range all() {
		for _, x := range []api.Val{v, list(v), object(keys("a", "b"), num(1), v), list(list(), v)} {
			if got, want := value.Right(x), refRight(x); got != want {
				t.Fatalf("Right(%s) = %v", told(x), got)
			}
		}
	}
}

func TestDeep(t *testing.T) {
	for _, c := range []struct {
		v    api.Val
		want int
	}{
		{api.Val{}, 0},
		{api.Val{Kind: api.Truth, N: 1}, 0},
		{num(5), 0},
		{text("[]"), 0},
		{list(), 1},
		{object(nil), 1},
		{list(num(1), text("a")), 1},
		{object(keys("a"), num(1)), 1},
		{list(list()), 2},
		{list(num(1), list(), object(keys("a"), list()), list()), 3},
		{list(list(list(list())), num(1)), 4},
		{api.Val{Kind: api.Text, List: []api.Val{list()}}, 0},
		{api.Val{Kind: 9, List: []api.Val{list()}}, 0},
		{api.Val{Kind: -1, List: []api.Val{list()}}, 0},
		{list(api.Val{Kind: 9, List: []api.Val{list(list())}}), 1},
		{object(nil, list()), 2},
		{object(keys("a", "b")), 1},
	} {
		if got := value.Deep(c.v); got != c.want {
			t.Errorf("Deep(%s) = %d, want %d", told(c.v), got, c.want)
		}
	}
	for _, v := range all() {
		for _, x := range []api.Val{v, list(num(1), v, list()), nested(5, v)} {
			if got, want := value.Deep(x), refDeep(x); got != want {
				t.Fatalf("Deep(%s) = %d, want %d", told(x), got, want)
			}
		}
	}
}

func TestMakers(t *testing.T) {
	for _, c := range []struct{ got, want api.Val }{
		{value.Str("a"), api.Val{Kind: 3, Text: "a"}},
		{value.Str(""), api.Val{Kind: 3}},
		{value.Str("\xff"), api.Val{Kind: 3, Text: "\xff"}},
		{value.Num(0), api.Val{Kind: 2}},
		{value.Num(-7), api.Val{Kind: 2, N: -7}},
		{value.Num(edge + 1), api.Val{Kind: 2, N: edge + 1}},
		{value.Num(-1 << 63), api.Val{Kind: 2, N: -1 << 63}},
		{value.Texts(nil), api.Val{Kind: 4}},
		{value.Texts([]string{}), api.Val{Kind: 4}},
		{value.Texts([]string{"b", "a", "b", ""}), api.Val{Kind: 4, List: []api.Val{{Kind: 3, Text: "b"}, {Kind: 3, Text: "a"}, {Kind: 3, Text: "b"}, {Kind: 3}}}},
		{value.Texts([]string{"\xff"}), api.Val{Kind: 4, List: []api.Val{{Kind: 3, Text: "\xff"}}}},
	} {
		if told(c.got) != told(c.want) {
			t.Errorf("%s, want %s", told(c.got), told(c.want))
		}
	}
	if !value.Right(value.Texts([]string{"a", "b"})) || value.Right(value.Str("\xff")) || value.Right(value.Num(edge+1)) {
		t.Error("a maker's value is right if what it is made of is")
	}
}

func TestCopy(t *testing.T) {
	for _, v := range all() {
		for _, x := range []api.Val{v, list(v, num(1), v), nested(4, v)} {
			want := told(x)
			got := value.Copy(x)
			if told(got) != want || told(x) != want {
				t.Fatalf("Copy(%s) = %s", want, told(got))
			}
			if !value.Same(got, x) {
				t.Fatalf("Copy(%s) is not the same", want)
			}
		}
	}
}

func TestDeepNesting(t *testing.T) {
	const most = 1 << 16
	v := nested(most, num(1))
	if got := value.Deep(v); got != most {
		t.Errorf("Deep is %d", got)
	}
	c := value.Copy(v)
	if !value.Same(v, c) || !value.Right(v) || !value.Right(c) {
		t.Error("a deep value is right, and the same as its copy")
	}
	other := nested(most, num(2))
	if value.Same(v, other) {
		t.Error("deep values that are not alike inside")
	}
	if value.Right(nested(most, num(edge+1))) {
		t.Error("a deep value that is wrong inside")
	}
	if x, is := value.Get(v, "k"); !is || value.Deep(x) != most-1 {
		t.Error("Get of a deep value")
	}
}
