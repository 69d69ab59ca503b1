package canon_test

import (
	"strings"
	"testing"

	"heliast/api"
	"heliast/canon"
)

func TestMemoryOfParse(t *testing.T) {
	long := func(s string) string { return `"` + strings.Repeat(s, 30) + `"` }
	s := "{" + long("b") + ":[" + long("x") + "," + long("x") + ",[1,2],[]]," + long("a") + ":{" + long("k") + ":" + long("y") + `,"e":{}},"n":null}`
	first, err, _ := canon.Parse(s)
	if err != api.OK {
		t.Fatal(err)
	}
	second, _, _ := canon.Parse(s)
	l := areas(first)
	for i, a := range l {
		if meet(a, textArea(s)) {
			t.Fatal("a text lies in the row of bytes that was handed in")
		}
		for _, b := range areas(second) {
			if meet(a, b) {
				t.Fatal("two answers share memory")
			}
		}
		for _, b := range l[:i] {
			if meet(a, b) {
				t.Fatal("two pieces of one answer share memory")
			}
		}
	}
	before := told(second)
	spoil(first)
	if third, _, _ := canon.Parse(s); told(second) != before || told(third) != before {
		t.Error("what is written into an answer is seen elsewhere")
	}
}

// spoil writes into all that can be written into.
func spoil(v api.Val) {
	for i := range v.Keys[:cap(v.Keys)] {
		v.Keys[:cap(v.Keys)][i] = "spoilt"
	}
	for i, x := range v.List[:cap(v.List)] {
		spoil(x)
		v.List[:cap(v.List)][i] = text("spoilt")
	}
}

// TestZeroFields: what a kind does not have stays as it is made.
func TestZeroFields(t *testing.T) {
	for _, s := range []string{`null`, `true`, `false`, `0`, `7`, `"a"`, `[]`, `{}`} {
		v, _, _ := canon.Parse(s)
		if v.Keys != nil || v.List != nil {
			t.Errorf("Parse(%s): %#v", s, v)
		}
	}
	if v, _, _ := canon.Parse(`[1]`); v.Keys != nil || v.N != 0 || v.Text != "" {
		t.Errorf("a list: %#v", v)
	}
	if v, _, _ := canon.Parse(`{"a":1}`); v.N != 0 || v.Text != "" {
		t.Errorf("an object: %#v", v)
	}
}

// TestMemoryOfPrint: a value is not changed, and what lies behind its lists'
// lengths is not told.
func TestMemoryOfPrint(t *testing.T) {
	names := []string{"a", "b", "behind"}
	vals := []api.Val{num(1), text("x"), text("behind")}
	v := api.Val{Kind: api.Object, Keys: names[:2], List: []api.Val{{Kind: api.List, List: vals[:2]}, num(2), text("behind")}[:2]}
	before := told(v)
	if got := canon.Print(v); got != `{"a":[1,"x"],"b":2}` {
		t.Errorf("Print = %s", got)
	}
	if told(v) != before || names[2] != "behind" || vals[2].Text != "behind" {
		t.Error("what was handed in was changed")
	}
	s := strings.Repeat("a", 50)
	if meet(textArea(canon.Print(text(s))), textArea(s)) {
		t.Error("the row of bytes lies in the value's memory")
	}
}
