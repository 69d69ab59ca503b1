package value_test

import (
	"testing"

	"heliast/api"
	"heliast/value"
)

func TestGet(t *testing.T) {
	ab := object(keys("a", "b"), num(1), num(2))
	for _, c := range []struct {
		name string
		v    api.Val
		key  string
		want api.Val
		is   bool
	}{
		{"the first", ab, "a", num(1), true},
		{"the last", ab, "b", num(2), true},
		{"ahead of all", ab, "", api.Val{}, false},
		{"between", ab, "aa", api.Val{}, false},
		{"behind all", ab, "c", api.Val{}, false},
		{"an empty key", object(keys("", "a"), text("x"), num(1)), "", text("x"), true},
		{"a null that is there", object(keys("a"), api.Val{}), "a", api.Val{}, true},
		{"an empty object", object(nil), "a", api.Val{}, false},
		{"a list", object(keys("a"), list(list(num(1)))), "a", list(list(num(1))), true},
		{"not in what lies inside", object(keys("a"), ab), "b", api.Val{}, false},
		{"a key twice", object(keys("a", "a"), num(1), num(2)), "a", num(1), true},
		{"keys that fall", object(keys("b", "a"), num(1), num(2)), "a", num(2), true},
		{"a shorter list", object(keys("a", "b"), num(1)), "b", api.Val{}, false},
		{"a shorter list, ahead", object(keys("a", "b"), num(1)), "a", num(1), true},
		{"no list", object(keys("a")), "a", api.Val{}, false},
		{"twice, of which the list has one", object(keys("b", "a", "a"), num(1), num(2)), "a", num(2), true},
		{"fewer keys", object(keys("a"), num(1), num(2)), "a", num(1), true},
		{"a key that is no UTF-8", object(keys("\xff"), num(1)), "\xff", num(1), true},
		{"another one that is no UTF-8", object(keys("\xff"), num(1)), "\xfe", api.Val{}, false},
		{"a list with keys", api.Val{Kind: api.List, Keys: keys("a"), List: []api.Val{num(1)}}, "a", api.Val{}, false},
		{"null with keys", api.Val{Keys: keys("a"), List: []api.Val{num(1)}}, "a", api.Val{}, false},
		{"no kind, with keys", api.Val{Kind: 6, Keys: keys("a"), List: []api.Val{num(1)}}, "a", api.Val{}, false},
		{"a text", text("a"), "a", api.Val{}, false},
		{"a value that is wrong", object(keys("a"), api.Val{Kind: 9, N: 4, Text: "\xff"}), "a", api.Val{Kind: 9, N: 4, Text: "\xff"}, true},
	} {
		got, is := value.Get(c.v, c.key)
		if told(got) != told(c.want) || is != c.is {
			t.Errorf("%s: Get = %s, %v", c.name, told(got), is)
		}
	}
}

func TestWith(t *testing.T) {
	bd := object(keys("b", "d"), num(1), num(2))
	x := list(text("x"))
	for _, c := range []struct {
		name string
		v    api.Val
		key  string
		want api.Val
	}{
		{"the first", bd, "b", object(keys("b", "d"), x, num(2))},
		{"the last", bd, "d", object(keys("b", "d"), num(1), x)},
		{"ahead of all", bd, "a", object(keys("a", "b", "d"), x, num(1), num(2))},
		{"an empty key", bd, "", object(keys("", "b", "d"), x, num(1), num(2))},
		{"between", bd, "c", object(keys("b", "c", "d"), num(1), x, num(2))},
		{"between, longer", bd, "bb", object(keys("b", "bb", "d"), num(1), x, num(2))},
		{"behind all", bd, "e", object(keys("b", "d", "e"), num(1), num(2), x)},
		{"an empty object", object(nil), "a", object(keys("a"), x)},
		{"null", api.Val{}, "a", object(keys("a"), x)},
		{"a number", num(7), "a", object(keys("a"), x)},
		{"a text", text("b"), "a", object(keys("a"), x)},
		{"a list", list(num(1)), "a", object(keys("a"), x)},
		{"a list with keys", api.Val{Kind: api.List, Keys: keys("b"), List: []api.Val{num(1)}}, "a", object(keys("a"), x)},
		{"no kind", api.Val{Kind: 6, N: 1, Text: "t", Keys: keys("a"), List: []api.Val{num(1)}}, "a", object(keys("a"), x)},
		{"a key twice", object(keys("a", "a"), num(1), num(2)), "a", object(keys("a", "a"), x, num(2))},
		{"ahead of the first that is not less", object(keys("d", "b", "f"), num(1), num(2), num(3)), "c", object(keys("c", "d", "b", "f"), x, num(1), num(2), num(3))},
		{"in between of those that fall", object(keys("a", "f", "b"), num(1), num(2), num(3)), "c", object(keys("a", "c", "f", "b"), num(1), x, num(2), num(3))},
		{"more keys, there", object(keys("a", "b", "c"), num(1)), "a", object(keys("a"), x)},
		{"more keys, one of those", object(keys("a", "b", "c"), num(1)), "b", object(keys("a", "b"), num(1), x)},
		{"more keys, behind", object(keys("a", "b", "d"), num(1)), "e", object(keys("a", "e"), num(1), x)},
		{"more keys, ahead", object(keys("b", "c"), num(1)), "a", object(keys("a", "b"), x, num(1))},
		{"keys alone", object(keys("a", "b")), "b", object(keys("b"), x)},
		{"fewer keys, there", object(keys("a"), num(1), num(2)), "a", object(keys("a"), x)},
		{"fewer keys, behind", object(keys("a"), num(1), num(2)), "b", object(keys("a", "b"), num(1), x)},
		{"a list alone", object(nil, num(1)), "a", object(keys("a"), x)},
		{"all else stays", api.Val{Kind: api.Object, N: 3, Text: "t"}, "a", api.Val{Kind: api.Object, N: 3, Text: "t", Keys: keys("a"), List: []api.Val{x}}},
	} {
		if got := value.With(c.v, c.key, x); told(got) != told(c.want) {
			t.Errorf("%s: With = %s, want %s", c.name, told(got), told(c.want))
		}
	}
}

func TestWithout(t *testing.T) {
	abc := object(keys("a", "b", "c"), num(1), num(2), num(3))
	for _, c := range []struct {
		name string
		v    api.Val
		key  string
		want api.Val
	}{
		{"the first", abc, "a", object(keys("b", "c"), num(2), num(3))},
		{"between", abc, "b", object(keys("a", "c"), num(1), num(3))},
		{"the last", abc, "c", object(keys("a", "b"), num(1), num(2))},
		{"none", abc, "d", abc},
		{"an empty key that is none", abc, "", abc},
		{"the only one", object(keys("a"), num(1)), "a", object(nil)},
		{"an empty object", object(nil), "a", object(nil)},
		{"a list", list(num(1)), "a", list(num(1))},
		{"a text", text("a"), "a", text("a")},
		{"a list with keys", api.Val{Kind: api.List, Keys: keys("a"), List: []api.Val{num(1)}}, "a", api.Val{Kind: api.List, Keys: keys("a"), List: []api.Val{num(1)}}},
		{"no kind", api.Val{Kind: 6, N: 1, Keys: keys("a"), List: []api.Val{num(1)}}, "a", api.Val{Kind: 6, N: 1, Keys: keys("a"), List: []api.Val{num(1)}}},
		{"a key twice", object(keys("a", "a"), num(1), num(2)), "a", object(keys("a"), num(2))},
		{"more keys, there", object(keys("a", "b", "c", "d"), num(1), num(2)), "a", object(keys("b"), num(2))},
		{"more keys, none of those that have a value", object(keys("a", "b"), num(1)), "b", object(keys("a", "b"), num(1))},
		{"fewer keys, there", object(keys("a", "b"), num(1), num(2), num(3)), "a", object(keys("b"), num(2))},
		{"fewer keys, none", object(keys("a"), num(1), num(2)), "b", object(keys("a"), num(1), num(2))},
		{"all else stays", api.Val{Kind: api.Object, N: 3, Text: "t", Keys: keys("a"), List: []api.Val{num(1)}}, "a", api.Val{Kind: api.Object, N: 3, Text: "t"}},
	} {
		if got := value.Without(c.v, c.key); told(got) != told(c.want) {
			t.Errorf("%s: Without = %s, want %s", c.name, told(got), told(c.want))
		}
	}
}

func TestObjectsOfAll(t *testing.T) {
	x := object(keys("x"), list(text("x")))
	for _, v := range all() {
		before := told(v)
		for _, key := range []string{"", "a", "aa", "b", "c", "c\xff", "z"} {
			got, is := value.Get(v, key)
			want, there := refGet(v, key)
			if told(got) != told(want) || is != there {
				t.Fatalf("Get(%s, %q) = %s, %v", before, key, told(got), is)
			}
			if got, want := value.With(v, key, x), refWith(v, key, x); told(got) != told(want) {
				t.Fatalf("With(%s, %q) = %s, want %s", before, key, told(got), told(want))
			}
			if got, want := value.Without(v, key), refWithout(v, key); told(got) != told(want) {
				t.Fatalf("Without(%s, %q) = %s, want %s", before, key, told(got), told(want))
			}
			if told(v) != before || told(x) != told(object(keys("x"), list(text("x")))) {
				t.Fatalf("what was handed in was changed: %s, now %s", before, told(v))
			}
		}
	}
}

// TestWhatIsPutInIsThere holds the chapter's promise of objects that are right.
func TestWhatIsPutInIsThere(t *testing.T) {
	names := []string{"", "a", "b", "c"}
	x := text("x")
	for set := range 1 << len(names) {
		v := object(nil)
		for i, k := range names {
			if set>>i&1 == 1 {
				v.Keys, v.List = append(v.Keys, k), append(v.List, num(int64(i)))
			}
		}
		for _, key := range []string{"", "a", "aa", "b", "bz", "c", "d"} {
			with, without := value.With(v, key, x), value.Without(v, key)
			if !value.Right(with) || !value.Right(without) {
				t.Fatalf("%s, %q: what comes of a right object is right", told(v), key)
			}
			if got, is := value.Get(with, key); !is || !value.Same(got, x) {
				t.Fatalf("%s, %q: what was put in is not there", told(v), key)
			}
			if _, is := value.Get(without, key); is {
				t.Fatalf("%s, %q: what was taken out is there", told(v), key)
			}
			if _, is := value.Get(v, key); !is && !value.Same(value.Without(with, key), v) {
				t.Fatalf("%s, %q: there and back", told(v), key)
			}
			for _, other := range names {
				if other == key {
					continue
				}
				was, is := value.Get(v, other)
				for _, now := range []api.Val{with, without} {
					if got, still := value.Get(now, other); still != is || !value.Same(got, was) {
						t.Fatalf("%s, %q: %q does not stay", told(v), key, other)
					}
				}
			}
		}
	}
}

func TestManyKeys(t *testing.T) {
	v := api.Val{}
	var names []string
	for a := 'z'; a >= 'a'; a-- {
		for b := 'a'; b <= 'z'; b++ {
			names = append(names, string(a)+string(b))
		}
	}
	for i, k := range names {
		v = value.With(v, k, num(int64(i)))
	}
	if !value.Right(v) || len(v.Keys) != len(names) {
		t.Fatalf("%d keys", len(v.Keys))
	}
	for i, k := range names {
		if x, is := value.Get(v, k); !is || x.N != int64(i) {
			t.Fatalf("%q: %s, %v", k, told(x), is)
		}
	}
	for _, k := range names {
		v = value.Without(v, k)
	}
	if told(v) != told(object(nil)) {
		t.Errorf("left: %s", told(v))
	}
}
