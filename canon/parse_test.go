package canon_test

import (
	"strings"
	"testing"

	"heliast/api"
	"heliast/canon"
	"heliast/value"
)

const edge = 1<<53 - 1

func num(n int64) api.Val { return api.Val{Kind: api.Int, N: n} }

func text(s string) api.Val { return api.Val{Kind: api.Text, Text: s} }

func truth(n int64) api.Val { return api.Val{Kind: api.Truth, N: n} }

func list(of ...api.Val) api.Val { return api.Val{Kind: api.List, List: of} }

func object(keys []string, list ...api.Val) api.Val {
	return api.Val{Kind: api.Object, Keys: keys, List: list}
}

func keys(l ...string) []string { return l }

func TestParse(t *testing.T) {
	for _, c := range []struct {
		s    string
		want api.Val
	}{
		{`null`, api.Val{}},
		{`true`, truth(1)},
		{`false`, truth(0)},
		{`0`, num(0)},
		{`7`, num(7)},
		{`-1`, num(-1)},
		{`-10`, num(-10)},
		{`100`, num(100)},
		{`1001`, num(1001)},
		{`9007199254740991`, num(edge)},
		{`-9007199254740991`, num(-edge)},
		{`""`, text("")},
		{`"a"`, text("a")},
		{`"a\"b\\\/\n\u0041\ud83d\ude00"`, text("a\"b\\/\nA\U0001f600")},
		{"\"\u00e9\ufffd\x7f\u2028\"", text("\u00e9\ufffd\x7f\u2028")},
		{`"\u0000"`, text("\x00")},
		{`"[1,{]"`, text("[1,{]")},
		{`[]`, list()},
		{`[ ]`, list()},
		{"[\t\n\r ]", list()},
		{`[1]`, list(num(1))},
		{`[1,2]`, list(num(1), num(2))},
		{`[2,1,2]`, list(num(2), num(1), num(2))},
		{`[null,true,false,0,"",[],{}]`, list(api.Val{}, truth(1), truth(0), num(0), text(""), list(), object(nil))},
		{`[[[]],[]]`, list(list(list()), list())},
		{`{}`, object(nil)},
		{`{ }`, object(nil)},
		{`{"a":1}`, object(keys("a"), num(1))},
		{`{"":null}`, object(keys(""), api.Val{})},
		{`{"b":1,"a":2}`, object(keys("a", "b"), num(2), num(1))},
		{`{"a":{"a":1},"b":{"a":1}}`, object(keys("a", "b"), object(keys("a"), num(1)), object(keys("a"), num(1)))},
		{`[{"a":1},{"a":1}]`, list(object(keys("a"), num(1)), object(keys("a"), num(1)))},
		{`{"b":1, "a":[]}`, object(keys("a", "b"), list(), num(1))},
		{`{"a":1,"A":2,"aa":3,"":4,"B":5,"b":6}`, object(keys("", "A", "B", "a", "aa", "b"), num(4), num(2), num(5), num(1), num(3), num(6))},
		// U+FF00 is ahead of U+10000 by bytes, and behind it by halves.
		{`{"\ud800\udc00":1,"\uff00":2,"\u00e9":3,"z":4}`, object(keys("z", "\u00e9", "\uff00", "\U00010000"), num(4), num(3), num(2), num(1))},
		{"{\"\u00e9\":1,\"e\u0301\":2}", object(keys("e\u0301", "\u00e9"), num(2), num(1))},
		{" \t\n\r1 \t\n\r", num(1)},
		{" \t\n\r[ \t\n\r1 \t\n\r, \t\n\r2 \t\n\r] \t\n\r", list(num(1), num(2))},
		{" \t\n\r{ \t\n\r\"a\" \t\n\r: \t\n\r1 \t\n\r, \t\n\r\"b\" \t\n\r: \t\n\r2 \t\n\r} \t\n\r", object(keys("a", "b"), num(1), num(2))},
	} {
		v, err, at := canon.Parse(c.s)
		if told(v) != told(c.want) || err != api.OK || at != 0 {
			t.Errorf("Parse(%q) = %s, %d, %d, want %s", c.s, told(v), err, at, told(c.want))
		}
		if !value.Right(v) {
			t.Errorf("Parse(%q) is not right", c.s)
		}
		holdParse(t, c.s)
	}
}

func TestParseFaults(t *testing.T) {
	for _, c := range []struct {
		s   string
		err api.Errno
		at  int
	}{
		// Nothing, or no value.
		{"", api.ErrJSON, 0},
		{" \n", api.ErrJSON, 2},
		{"x", api.ErrJSON, 0},
		{"\x00", api.ErrJSON, 0},
		{"1\x00", api.ErrJSON, 1},
		{"[\x00]", api.ErrJSON, 1},
		{"[1\x00", api.ErrJSON, 2},
		{",", api.ErrJSON, 0},
		{":", api.ErrJSON, 0},
		{"]", api.ErrJSON, 0},
		{"}", api.ErrJSON, 0},
		{"\ufeff1", api.ErrJSON, 0},
		{"\u00a01", api.ErrJSON, 0},
		{"\v1", api.ErrJSON, 0},
		{"\f1", api.ErrJSON, 0},
		{"1\v", api.ErrJSON, 1},
		{"'a'", api.ErrJSON, 0},
		// Words.
		{"nul", api.ErrJSON, 0},
		{"tru", api.ErrJSON, 0},
		{"fals", api.ErrJSON, 0},
		{"Null", api.ErrJSON, 0},
		{"TRUE", api.ErrJSON, 0},
		{"nil", api.ErrJSON, 0},
		{"n ull", api.ErrJSON, 0},
		{"[nulL]", api.ErrJSON, 1},
		{"nullx", api.ErrJSON, 4},
		{"truefalse", api.ErrJSON, 4},
		{"true1", api.ErrJSON, 4},
		{"false,", api.ErrJSON, 5},
		// Behind the value.
		{"1 2", api.ErrJSON, 2},
		{"[][]", api.ErrJSON, 2},
		{"[]]", api.ErrJSON, 2},
		{"{}}", api.ErrJSON, 2},
		{"{},", api.ErrJSON, 2},
		{`"a""b"`, api.ErrJSON, 3},
		{"1x", api.ErrJSON, 1},
		{"1-", api.ErrJSON, 1},
		{"1+1", api.ErrJSON, 1},
		{"0x1", api.ErrJSON, 1},
		{"1_0", api.ErrJSON, 1},
		{"1 .5", api.ErrJSON, 2},
		{"1 e5", api.ErrJSON, 2},
		{"null.", api.ErrJSON, 4},
		// Strings: at the quote.
		{`"`, api.ErrJSON, 0},
		{`"a`, api.ErrJSON, 0},
		{` "a\"`, api.ErrJSON, 1},
		{`["a`, api.ErrJSON, 1},
		{`["a","b\x"]`, api.ErrJSON, 5},
		{`["\ud800"]`, api.ErrJSON, 1},
		{`["\udc00"]`, api.ErrJSON, 1},
		{`["\u12g4"]`, api.ErrJSON, 1},
		{"[\"a\nb\"]", api.ErrJSON, 1},
		{"[\"a\x1fb\"]", api.ErrJSON, 1},
		{`{"a\":1}`, api.ErrJSON, 1},
		{`{"a":1,"b`, api.ErrJSON, 7},
		{`{"a":1,"a`, api.ErrJSON, 7},
		// Lists.
		{"[", api.ErrJSON, 1},
		{"[ ", api.ErrJSON, 2},
		{"[1", api.ErrJSON, 2},
		{"[1 ", api.ErrJSON, 3},
		{"[1,", api.ErrJSON, 3},
		{"[1, ", api.ErrJSON, 4},
		{"[1,]", api.ErrJSON, 3},
		{"[1, ]", api.ErrJSON, 4},
		{"[,1]", api.ErrJSON, 1},
		{"[,]", api.ErrJSON, 1},
		{"[1,,2]", api.ErrJSON, 3},
		{"[1 2]", api.ErrJSON, 3},
		{"[1}", api.ErrJSON, 2},
		{"[}", api.ErrJSON, 1},
		{"[1:2]", api.ErrJSON, 2},
		{`["a":1]`, api.ErrJSON, 4},
		{"[[1]", api.ErrJSON, 4},
		{"[1][", api.ErrJSON, 3},
		// Objects.
		{"{", api.ErrJSON, 1},
		{"{ ", api.ErrJSON, 2},
		{"{1:2}", api.ErrJSON, 1},
		{"{a:2}", api.ErrJSON, 1},
		{"{null:2}", api.ErrJSON, 1},
		{"{,}", api.ErrJSON, 1},
		{"{]", api.ErrJSON, 1},
		{"{[", api.ErrJSON, 1},
		{`{"a"`, api.ErrJSON, 4},
		{`{"a" `, api.ErrJSON, 5},
		{`{"a"}`, api.ErrJSON, 4},
		{`{"a",`, api.ErrJSON, 4},
		{`{"a" 1}`, api.ErrJSON, 5},
		{`{"a":`, api.ErrJSON, 5},
		{`{"a":}`, api.ErrJSON, 5},
		{`{"a": }`, api.ErrJSON, 6},
		{`{"a"::1}`, api.ErrJSON, 5},
		{`{"a":1`, api.ErrJSON, 6},
		{`{"a":1,`, api.ErrJSON, 7},
		{`{"a":1,}`, api.ErrJSON, 7},
		{`{"a":1, }`, api.ErrJSON, 8},
		{`{"a":1,,"b":1}`, api.ErrJSON, 7},
		{`{"a":1]`, api.ErrJSON, 6},
		{`{"a":1 "b":2}`, api.ErrJSON, 7},
		{`{"a":1:2}`, api.ErrJSON, 6},
		// Numbers: at their first byte, ErrJSON ahead of ErrRange.
		{"-", api.ErrJSON, 0},
		{" - 1", api.ErrJSON, 1},
		{"--1", api.ErrJSON, 0},
		{"-x", api.ErrJSON, 0},
		{"-.5", api.ErrJSON, 0},
		{"-e5", api.ErrJSON, 0},
		{"+1", api.ErrJSON, 0},
		{".5", api.ErrJSON, 0},
		{"e5", api.ErrJSON, 0},
		{"00", api.ErrJSON, 0},
		{"01", api.ErrJSON, 0},
		{"001", api.ErrJSON, 0},
		{"[1,01]", api.ErrJSON, 3},
		{"-0", api.ErrJSON, 0},
		{"-00", api.ErrJSON, 0},
		{"-01", api.ErrJSON, 0},
		{"[-0]", api.ErrJSON, 1},
		{"-0.5", api.ErrJSON, 0},
		{"-0e1", api.ErrJSON, 0},
		{"01.5", api.ErrJSON, 0},
		{"00e5", api.ErrJSON, 0},
		{"09007199254740992", api.ErrJSON, 0},
		{"-09007199254740992", api.ErrJSON, 0},
		{"0" + strings.Repeat("9", 40), api.ErrJSON, 0},
		{"-" + strings.Repeat("0", 40), api.ErrJSON, 0},
		{"0.5", api.ErrRange, 0},
		{"0e1", api.ErrRange, 0},
		{"0E1", api.ErrRange, 0},
		{"1.", api.ErrRange, 0},
		{"1e", api.ErrRange, 0},
		{"1E+5x", api.ErrRange, 0},
		{"-1.0", api.ErrRange, 0},
		{"[1,2.0]", api.ErrRange, 3},
		{`{"a": 1e3}`, api.ErrRange, 6},
		{"9007199254740992", api.ErrRange, 0},
		{"-9007199254740992", api.ErrRange, 0},
		{"[ -9007199254740992", api.ErrRange, 2},
		{"9007199254740992x", api.ErrRange, 0},
		{"10000000000000000", api.ErrRange, 0},
		{"9223372036854775807", api.ErrRange, 0},
		{"9223372036854775808", api.ErrRange, 0},
		{"-9223372036854775808", api.ErrRange, 0},
		{"-9223372036854775809", api.ErrRange, 0},
		{"18446744073709551616", api.ErrRange, 0},
		{"18446744073709551617", api.ErrRange, 0},
		{"1" + strings.Repeat("0", 60000), api.ErrRange, 0},
		{"-1" + strings.Repeat("0", 60000), api.ErrRange, 0},
		// Keys that are there already, at once when they are met.
		{`{"a":1,"a":2}`, api.ErrTwice, 7},
		{`{"a":1, "a":2}`, api.ErrTwice, 8},
		{`{"a":1,"b":2,"a":3}`, api.ErrTwice, 13},
		{`{"":1,"":2}`, api.ErrTwice, 6},
		{`{"a":1,"\u0061":2}`, api.ErrTwice, 7},
		{"{\"\u00e9\":1,\"\\u00E9\":2}", api.ErrTwice, 8},
		{`[0,{"a":1,"a":2}]`, api.ErrTwice, 10},
		{`{"a":{"b":1},"b":2,"a":3}`, api.ErrTwice, 19},
		{`{"a":1,"a"`, api.ErrTwice, 7},
		{`{"a":1,"a"x`, api.ErrTwice, 7},
		{`{"a":1,"a":01}`, api.ErrTwice, 7},
		{`{"a":1x,"a":1}`, api.ErrJSON, 6},
		{`{"a":1.5,"a":1}`, api.ErrRange, 5},
		{`{"a":1,"a":1.5}`, api.ErrTwice, 7},
		// The first from the left.
		{"[1.5,01]", api.ErrRange, 1},
		{"[01,1.5]", api.ErrJSON, 1},
		{"[1 1.5]", api.ErrJSON, 3},
		// What is no UTF-8 goes ahead of all else but the length.
		{"\xff", api.ErrUtf, 0},
		{"[1,]\xff", api.ErrUtf, 4},
		{"{\"a\":1,\"a\":\"\xc3\"}", api.ErrUtf, 12},
		{"1.5 \xed\xa0\x80", api.ErrUtf, 4},
		{"\"\xc0\xa2", api.ErrUtf, 1},
		{"\"a\u00e9\xe2\x82\"", api.ErrUtf, 4},
		{"\"\xf4\x90\x80\x80\"", api.ErrUtf, 1},
	} {
		v, err, at := canon.Parse(c.s)
		if err != c.err || at != c.at {
			t.Errorf("Parse(%.40q) = error %d at %d, want %d at %d", c.s, err, at, c.err, c.at)
		}
		if !isZero(v) {
			t.Errorf("Parse(%.40q) tells %s beside an error", c.s, told(v))
		}
		holdParse(t, c.s)
	}
}

func isZero(v api.Val) bool {
	return v.Kind == 0 && v.N == 0 && v.Text == "" && v.Keys == nil && v.List == nil
}

// holdParse holds all calls against what the chapter says, written down a
// second time.
func holdParse(t *testing.T, s string) {
	t.Helper()
	v, err, at := canon.Parse(s)
	want, wantErr, wantAt := refParse(s)
	if told(v) != told(want) || err != wantErr || at != wantAt {
		t.Fatalf("Parse(%.60q) = %.60s, %d, %d, want %.60s, %d, %d", s, told(v), err, at, told(want), wantErr, wantAt)
	}
	is := wantErr == 0 && refPrint(want) == s
	if canon.Canon(s) != is {
		t.Fatalf("Canon(%.60q) = %v", s, !is)
	}
	if err == api.OK {
		holdPrint(t, v)
	}
}

// eachText calls do with each text of up to most of the given pieces.
func eachText(of []string, most int, do func(s string)) {
	var grow func(s string, n int)
	grow = func(s string, n int) {
		do(s)
		if n == most {
			return
		}
		for _, x := range of {
			grow(s+x, n+1)
		}
	}
	grow("", 0)
}

func TestParseOfAllBytes(t *testing.T) {
	for _, c := range []struct {
		of   string
		most int
	}{
		{`[]{},:"a1 `, 5},
		{`[1,] `, 7},
		{`-01.e,[]`, 5},
		{"\"\\u0d8\x1f\u00e9", 4},
		{"null", 5},
	} {
		eachText(strings.Split(c.of, ""), c.most, func(s string) { holdParse(t, s) })
	}
	for c := range 256 {
		b := string([]byte{byte(c)})
		for _, s := range []string{b, b + "1", "1" + b, "[" + b + "1]", "[1" + b + "]", "[1" + b + "2]", `"` + b + `"`, `"\` + b + `"`, "{" + b + "}", `{"a"` + b + "1}", "-" + b, "0" + b, "nul" + b} {
			holdParse(t, s)
		}
	}
}

func TestParseOfAllPieces(t *testing.T) {
	pieces := []string{"[", "]", "{", "}", ",", ":", `"a"`, `"\u0061"`, `"`, "1", "-0", "2e", "null", "\n"}
	eachText(pieces, 4, func(s string) { holdParse(t, s) })
	eachText([]string{`"a"`, `"b"`, ":", "1", ","}, 6, func(s string) { holdParse(t, "{"+s+"}") })
	eachText([]string{`"a":1,`, `"b":{`, `"a":[`, "]", "}", "0,", "0"}, 6, func(s string) { holdParse(t, "{"+s) })
}

// TestParseOfSpoilt: rows of bytes with one byte out, one more, or another one.
func TestParseOfSpoilt(t *testing.T) {
	for _, s := range []string{
		`{"b":[1,-20,{"c":"\ud83d\ude00x\"","d":null}],"a":{"":[true,false]}}`,
		"\t[ 9007199254740991 , -9007199254740991 , \"\u00e9\" , { \"a\" : [ ] , \"b\" : { } } ]\n",
	} {
		holdParse(t, s)
		for i := range s {
			holdParse(t, s[:i])
			holdParse(t, s[i:])
			holdParse(t, s[:i]+s[i+1:])
			for _, c := range strings.Split("[]{},:\"\\ 019-.eunt\x00\xff", "") {
				holdParse(t, s[:i]+c+s[i:])
				holdParse(t, s[:i]+c+s[i+1:])
			}
		}
	}
}
