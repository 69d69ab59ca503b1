package names_test

import (
	"slices"
	"strings"
	"testing"
	"unsafe"

	"heliast/api"
	"heliast/names"
	"heliast/value"
)

func text(s string) api.Val { return api.Val{Kind: api.Text, Text: s} }

func list(of ...api.Val) api.Val { return api.Val{Kind: api.List, List: of} }

func object(keys []string, of ...api.Val) api.Val {
	return api.Val{Kind: api.Object, Keys: keys, List: of}
}

// acl has both lists.
func acl(allow, deny []string) api.Val {
	return object([]string{"allow", "deny"}, value.Texts(allow), value.Texts(deny))
}

func TestLet(t *testing.T) {
	for _, c := range []struct {
		name        string
		allow, deny []string
		host        string
		want        bool
	}{
		{"all let", []string{"*"}, nil, "a", true},
		{"all let, and an empty host", []string{"*"}, nil, "", true},
		{"none let", nil, nil, "a", false},
		{"let by its name", []string{"a.b"}, nil, "a.b", true},
		{"another let", []string{"a.b"}, nil, "a.c", false},
		{"let by the last", []string{"x", "y", "a.*"}, nil, "a.b", true},
		{"let by the first", []string{"a.*", "x", "y"}, nil, "a.b", true},
		{"let by a question mark", []string{"?.b"}, nil, "a.b", true},
		{"too short for a question mark", []string{"?.b"}, nil, ".b", false},
		{"let by an empty pattern", []string{""}, nil, "", true},
		{"not let by an empty pattern", []string{""}, nil, "a", false},
		{"denied and let", []string{"*"}, []string{"*.bad"}, "a.bad", false},
		{"denied and let, each by its name", []string{"a"}, []string{"a"}, "a", false},
		{"denied, and let more narrowly", []string{"a.bad"}, []string{"*"}, "a.bad", false},
		{"another denied", []string{"*"}, []string{"*.bad"}, "bad", true},
		{"denied by the last", []string{"*"}, []string{"x", "y", "a"}, "a", false},
		{"denied by the first", []string{"*"}, []string{"a", "x", "y"}, "a", false},
		{"denied alone", nil, []string{"a"}, "a", false},
		{"another denied alone", nil, []string{"b"}, "a", false},
		{"in another case", []string{"A.B"}, nil, "a.b", false},
		{"denied in another case", []string{"*"}, []string{"A"}, "a", true},
		{"a pattern that is no UTF-8", []string{"\xff"}, nil, "\xff", true},
		{"a host that is no host", []string{"*"}, []string{"a*"}, "@x:y Z", true},
	} {
		if got := names.Let(acl(c.allow, c.deny), c.host); got != c.want {
			t.Errorf("%s: %v", c.name, got)
		}
	}
}

func TestLetByNoObject(t *testing.T) {
	inner := acl(nil, []string{"*"})
	for _, v := range []api.Val{
		{},
		{Kind: api.Truth},
		{Kind: api.Truth, N: 1},
		{Kind: api.Int, N: 5},
		text(""),
		text("deny"),
		list(),
		list(text("a")),
		list(inner),
		{Kind: 4, Keys: inner.Keys, List: inner.List},
		{Kind: 0, Keys: inner.Keys, List: inner.List},
		{Kind: 6, Keys: inner.Keys, List: inner.List},
		{Kind: -1, Keys: inner.Keys, List: inner.List},
	} {
		if !names.Let(v, "a") || !names.Let(v, "") {
			t.Errorf("a value of kind %d does not let one in", v.Kind)
		}
	}
}

// TestLetByOddLists: what is no list has no patterns, and what is no text is none.
func TestLetByOddLists(t *testing.T) {
	all := list(text("*"))
	odd := map[string]api.Val{
		"null":                          {},
		"null with a list":              {List: all.List},
		"a truth":                       {Kind: api.Truth, N: 1},
		"a number":                      {Kind: api.Int, N: 1},
		"a text":                        text("*"),
		"a text with a list":            {Kind: api.Text, Text: "*", List: all.List},
		"an object":                     object([]string{"*"}, text("*")),
		"an object of a list":           object([]string{"allow", "deny"}, all, all),
		"no kind":                       {Kind: 9, Text: "*", List: all.List},
		"an empty list":                 list(),
		"a list of null":                list(api.Val{}),
		"a list of a number":            list(api.Val{Kind: api.Int, Text: "*"}),
		"a list of a truth":             list(api.Val{Kind: api.Truth, N: 1, Text: "*"}),
		"a list of no kind":             list(api.Val{Kind: 9, Text: "*"}),
		"a list of a list":              list(all),
		"a list of an object":           list(object([]string{"*"}, text("*"))),
		"a list of an object of a text": list(api.Val{Kind: api.Object, Text: "*"}),
	}
	for name, v := range odd {
		if names.Let(object([]string{"allow", "deny"}, v, list()), "a") {
			t.Errorf("let by %s", name)
		}
		if names.Let(object([]string{"allow"}, v), "a") {
			t.Errorf("let by %s alone", name)
		}
		if !names.Let(object([]string{"allow", "deny"}, all, v), "a") {
			t.Errorf("denied by %s", name)
		}
		if v.Kind != api.List {
			continue
		}
		// A text counts wherever others stand around it.
		both := list(slices.Concat(v.List, all.List, v.List)...)
		if !names.Let(object([]string{"allow", "deny"}, both, v), "a") {
			t.Errorf("not let by a text beside %s", name)
		}
		if names.Let(object([]string{"allow", "deny"}, all, both), "a") {
			t.Errorf("not denied by a text beside %s", name)
		}
	}
}

func TestLetByOddObjects(t *testing.T) {
	all, none := list(text("*")), list()
	for _, c := range []struct {
		name string
		v    api.Val
		want bool
	}{
		{"an empty object", object(nil), false},
		{"allow alone", object([]string{"allow"}, all), true},
		{"deny alone", object([]string{"deny"}, none), false},
		{"other keys beside", object([]string{"", "a", "allow", "denyx", "z"}, all, all, all, all, all), true},
		{"keys in another case", object([]string{"Allow", "allow", "Deny"}, none, all, all), true},
		{"allow in another case", object([]string{"Allow", "deny"}, all, none), false},
		{"a nested allow", object([]string{"x"}, object([]string{"allow"}, all)), false},
		{"keys that fall", object([]string{"deny", "allow"}, none, all), true},
		{"keys that fall, denied", object([]string{"deny", "allow"}, all, all), false},
		{"allow twice, the first lets", object([]string{"allow", "allow"}, all, none), true},
		{"allow twice, the second lets", object([]string{"allow", "allow"}, none, all), false},
		{"deny twice, the first denies", object([]string{"allow", "deny", "deny"}, all, all, none), false},
		{"deny twice, the second denies", object([]string{"allow", "deny", "deny"}, all, none, all), true},
		{"a shorter list, without allow", object([]string{"allow"}), false},
		{"a shorter list, without deny", object([]string{"allow", "deny"}, all), true},
		{"a longer list", object([]string{"allow"}, all, all, all), true},
		{"an object with a number and a text", api.Val{Kind: api.Object, N: 3, Text: "x", Keys: []string{"allow"}, List: []api.Val{all}}, true},
	} {
		if got := names.Let(c.v, "a"); got != c.want {
			t.Errorf("%s: %v", c.name, got)
		}
	}
}

// TestLetOfAll: all lists of few patterns, against the chapter's words.
func TestLetOfAll(t *testing.T) {
	patterns := []string{"", "*", "?", "a", "b", "*a"}
	var lists [][]string
	for _, p := range patterns {
		lists = append(lists, []string{p})
		for _, q := range patterns {
			lists = append(lists, []string{p, q})
		}
	}
	lists = append(lists, nil)
	one := func(l []string, host string) bool {
		return slices.ContainsFunc(l, func(p string) bool { return refGlob(p, host) })
	}
	for _, allow := range lists {
		for _, deny := range lists {
			for _, host := range []string{"", "a", "b", "ba", "ab"} {
				want := !one(deny, host) && one(allow, host)
				if got := names.Let(acl(allow, deny), host); got != want {
					t.Fatalf("allow %q, deny %q, host %q: %v", allow, deny, host, got)
				}
			}
		}
	}
}

func TestLetByMuch(t *testing.T) {
	many := make([]string, 20000)
	for i := range many {
		many[i] = "*.x" + strings.Repeat("*?", i%20)
	}
	if names.Let(acl(many, nil), "a.b") || !names.Let(acl(append(many, "a.b"), many), "a.b") {
		t.Error("many patterns")
	}
	deep := text("*")
	for range 1 << 16 {
		deep = list(deep)
	}
	if names.Let(object([]string{"allow"}, deep), "a") || !names.Let(object([]string{"allow", "deny"}, list(text("*")), deep), "a") {
		t.Error("a deep list has no text of its own")
	}
}

// TestHandedIn: what is handed in stays as it is, and what lies behind a list's
// length is not read.
func TestHandedIn(t *testing.T) {
	allow := []api.Val{text("a"), text("*")}
	deny := []api.Val{text("b"), text("*")}
	keys := []string{"allow", "deny", "deny"}
	vals := []api.Val{list(allow[:1]...), list(deny[:1]...), list(text("*"))}
	before := value.Copy(object(keys, append(vals, list(allow...), list(deny...))...))
	v := object(keys[:2], vals[:2]...)
	for host, want := range map[string]bool{"a": true, "b": false, "c": false} {
		if names.Let(v, host) != want {
			t.Errorf("Let of %s", host)
		}
	}
	if names.Let(object(keys[:0], vals[:1]...), "a") || names.Let(object(keys[:1], vals[:0]...), "a") {
		t.Error("a key, or a value, behind the lists' lengths is read")
	}
	after := object(keys, append(vals, list(allow...), list(deny...))...)
	if !value.Same(before, after) {
		t.Error("what was handed in was changed")
	}
}

// TestHandedOut: a server's name is new memory, so that it does not keep alive
// the text that it was cut from.
func TestHandedOut(t *testing.T) {
	for _, sign := range []string{"@", "!"} {
		s := strings.Clone(sign + "a:b.c")
		first, second := names.Server(s), names.Server(s)
		if first != "b.c" || second != "b.c" {
			t.Fatalf("Server(%q) = %q, %q", s, first, second)
		}
		if unsafe.StringData(first) == unsafe.StringData(s[3:]) || unsafe.StringData(first) == unsafe.StringData(second) {
			t.Errorf("Server(%q) is no new memory", s)
		}
	}
}

// TestTogether: calls that run beside one another know nothing of each other.
func TestTogether(t *testing.T) {
	v := acl([]string{"*"}, []string{"*.bad"})
	done := make(chan bool)
	for range 8 {
		go func() {
			ok := true
			for range 2000 {
				ok = ok && names.Let(v, "a.b") && !names.Let(v, "a.bad") && names.Server("@a:b") == "b" && !names.User("@:b")
			}
			done <- ok
		}()
	}
	for range 8 {
		if !<-done {
			t.Error("a call beside others answers otherwise")
		}
	}
}
