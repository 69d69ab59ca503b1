package canon_test

import (
	"encoding/json"
	"math/rand"
	"strings"
	"testing"

	"heliast/api"
	"heliast/canon"
	"heliast/value"
)

func TestPrint(t *testing.T) {
	for _, c := range []struct {
		v    api.Val
		want string
	}{
		{api.Val{}, `null`},
		{truth(0), `false`},
		{truth(1), `true`},
		{num(0), `0`},
		{num(-1), `-1`},
		{num(10), `10`},
		{num(edge), `9007199254740991`},
		{num(-edge), `-9007199254740991`},
		{text(""), `""`},
		{text("a\"\x01"), `"a\"\u0001"`},
		{text("\b\t\n\f\r\\/\x00\x1f\x7f"), `"\b\t\n\f\r\\/\u0000\u001f` + "\x7f" + `"`},
		{text("\u00e9\u2028<>&\ufffd\U0001f600"), "\"\u00e9\u2028<>&\ufffd\U0001f600\""},
		{list(), `[]`},
		{api.Val{Kind: api.List, List: []api.Val{}}, `[]`},
		{list(num(1)), `[1]`},
		{list(num(1), list(), api.Val{}), `[1,[],null]`},
		{object(nil), `{}`},
		{api.Val{Kind: api.Object, Keys: []string{}, List: []api.Val{}}, `{}`},
		{object(keys("a"), num(1)), `{"a":1}`},
		{object(keys("", "A\n", "a"), truth(1), object(nil), text("x")), `{"":true,"A\n":{},"a":"x"}`},
		{object(keys("a"), object(keys("a"), list(text("a"), text("b")))), `{"a":{"a":["a","b"]}}`},
	} {
		if got := canon.Print(c.v); got != c.want {
			t.Errorf("Print(%s) = %s, want %s", told(c.v), got, c.want)
		}
		holdPrint(t, c.v)
	}
}

// holdPrint holds a right value's row of bytes against the chapter: there and
// back, and none other.
func holdPrint(t *testing.T, v api.Val) {
	t.Helper()
	s := canon.Print(v)
	if s != refPrint(v) {
		t.Fatalf("Print(%s) = %s, want %s", told(v), s, refPrint(v))
	}
	back, err, at := canon.Parse(s)
	if err != api.OK || at != 0 || told(back) != told(v) || !value.Same(back, v) {
		t.Fatalf("Parse(Print(%s)) = %s, %d, %d", told(v), told(back), err, at)
	}
	if !canon.Canon(s) {
		t.Fatalf("Canon(%s) says no", s)
	}
	if !json.Valid([]byte(s)) {
		t.Fatalf("%s is no JSON", s)
	}
}

// TestPrintBeyond: a value that is right has its row of bytes, even one that
// goes deeper, or is longer, than what is read.
func TestPrintBeyond(t *testing.T) {
	v := num(1)
	for range 1000 {
		v = list(object(keys("a"), v))
	}
	if s := canon.Print(v); s != strings.Repeat(`[{"a":`, 1000)+"1"+strings.Repeat("}]", 1000) || canon.Canon(s) {
		t.Error("a deep value")
	}
	if s := canon.Print(text(strings.Repeat("a", 1<<20))); s != `"`+strings.Repeat("a", 1<<20)+`"` || canon.Canon(s) {
		t.Error("a long value")
	}
	deep := api.Val{}
	for range 1 << 16 {
		deep = list(deep)
	}
	if len(canon.Print(deep)) != 2<<16+4 {
		t.Error("as deep as values may be")
	}
}

// TestPrintOfWrong: of a value that is not right nothing is promised but an
// end.
func TestPrintOfWrong(t *testing.T) {
	for kind := -2; kind <= 8; kind++ {
		for _, n := range []int64{0, 1, -1, 2, edge + 1, 1<<63 - 1, -1 << 63} {
			for _, s := range []string{"", "a", "\xff", "\xed\xa0\x80"} {
				for _, k := range [][]string{nil, {"a"}, {"b", "a"}, {"a", "a", "\xff"}} {
					for _, l := range [][]api.Val{nil, {num(1)}, {{Kind: 9}, text("\xff")}, {num(1), num(2), num(3), num(4)}} {
						canon.Print(api.Val{Kind: kind, N: n, Text: s, Keys: k, List: l})
						canon.Print(list(api.Val{Kind: kind, N: n, Text: s, Keys: k, List: l}))
					}
				}
			}
		}
	}
}

func TestCanon(t *testing.T) {
	for _, s := range []string{
		`null`, `true`, `false`, `0`, `-1`, `""`, `"a"`, `"\n"`, `"\u001f"`, "\"\x7f\"", "\"\u00e9\"", `"/"`, `[]`, `[1,2]`, `{}`, `{"a":1}`, `{"":0,"a":1,"b":[]}`,
		"{\"z\":1,\"\u00e9\":2,\"\uff00\":3,\"\U00010000\":4}",
	} {
		if !canon.Canon(s) {
			t.Errorf("Canon(%q) says no", s)
		}
	}
	for _, s := range []string{
		``, ` `, ` null`, `null `, "1\n", `[ ]`, `[1, 2]`, `[1 ,2]`, `{ }`, `{"a" :1}`, `{"a": 1}`, `{"b":1,"a":2}`, `{"a":1,"a":1}`,
		`"\u0061"`, `"\/"`, `"\u000a"`, `"\u001F"`, `"\u00e9"`, `"\u007f"`, `"\ud83d\ude00"`, `{"\u0061":1}`, "\"\xff\"", "\"\n\"",
		`-0`, `01`, `1.0`, `1e3`, `9007199254740992`, `[1,]`, `nul`, `x`, "\ufeff1",
		"{\"\U00010000\":4,\"\uff00\":3}",
	} {
		if canon.Canon(s) {
			t.Errorf("Canon(%q) says yes", s)
		}
	}
}

// drawn is a right value that a source of numbers tells.
func drawn(from *rand.Rand, deep int) api.Val {
	texts := []string{"", "a", "b", "aa", "A", "\x00", "\n\"\\/", "\u00e9", "\uff00", "\U00010000", "\ufffd", "\u2028", "\x7f"}
	kind := from.Intn(6)
	if deep == 0 {
		kind = from.Intn(4)
	}
	switch kind {
	case api.Truth:
		return truth(int64(from.Intn(2)))
	case api.Int:
		return num((from.Int63n(2*edge+1) - edge) >> from.Intn(60))
	case api.Text:
		return text(texts[from.Intn(len(texts))] + texts[from.Intn(len(texts))])
	case api.List:
		v := list()
		for range from.Intn(5) {
			v.List = append(v.List, drawn(from, deep-1))
		}
		return v
	case api.Object:
		v := object(nil)
		for range from.Intn(5) {
			v = value.With(v, texts[from.Intn(len(texts))], drawn(from, deep-1))
		}
		return v
	}
	return api.Val{}
}

func TestThereAndBack(t *testing.T) {
	from := rand.New(rand.NewSource(1))
	rows := map[string]string{}
	for range 5000 {
		v := drawn(from, 4)
		if !value.Right(v) {
			t.Fatal("the test's own value is not right")
		}
		holdPrint(t, v)
		s := canon.Print(v)
		if other, is := rows[s]; is && other != told(v) {
			t.Fatalf("%s is the row of two values", s)
		}
		rows[s] = told(v)
	}
}

// TestOtherRows: however blanks, escapes and the order of keys are, one value
// has one row of bytes.
func TestOtherRows(t *testing.T) {
	const row = `{"a":[1,"\n"],"b":{"c":null,"d":true}}`
	for _, s := range []string{
		row,
		` { "a" : [ 1 , "\n" ] , "b" : { "c" : null , "d" : true } } `,
		`{"b":{"d":true,"c":null},"a":[1,"\n"]}`,
		`{"\u0062":{"c":null,"\u0064":true},"a":[1,"\u000a"]}`,
		"\r\n{\t\"b\":{\"d\":true,\"c\":null},\n\"a\":[1,\"\\u000A\"]}",
	} {
		v, err, at := canon.Parse(s)
		if err != api.OK || at != 0 || canon.Print(v) != row {
			t.Errorf("Parse(%q): %s, %d, %d", s, canon.Print(v), err, at)
		}
		if canon.Canon(s) != (s == row) {
			t.Errorf("Canon(%q)", s)
		}
	}
}

// TestSameAnswers: what is told does not hang on the order in which a map is
// gone through.
func TestSameAnswers(t *testing.T) {
	for _, s := range []string{`[null,true,false]`, `{"c":null,"a":true,"b":false}`, `[nullx]`, `[t]`, `{"a":f}`, `{"b":1,"a":2,"b":3,"a":4}`} {
		first, err, at := canon.Parse(s)
		for range 100 {
			if v, e, place := canon.Parse(s); told(v) != told(first) || e != err || place != at {
				t.Fatalf("Parse(%s) is not always the same", s)
			}
		}
	}
}
