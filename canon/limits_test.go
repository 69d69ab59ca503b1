package canon_test

import (
	"strconv"
	"strings"
	"testing"

	"heliast/api"
	"heliast/canon"
	"heliast/value"
)

const mostBytes = 65536

func holdFault(t *testing.T, name, s string, err api.Errno, at int) {
	t.Helper()
	v, gotErr, gotAt := canon.Parse(s)
	if gotErr != err || gotAt != at {
		t.Errorf("%s: error %d at %d, want %d at %d", name, gotErr, gotAt, err, at)
	}
	if err != api.OK && !isZero(v) {
		t.Errorf("%s: a value beside an error", name)
	}
}

func TestLong(t *testing.T) {
	text := func(n int) string { return `"` + strings.Repeat("a", n-2) + `"` }
	holdFault(t, "a text as long as may be", text(mostBytes), api.OK, 0)
	holdFault(t, "a text too long", text(mostBytes+1), api.ErrLong, 0)
	holdFault(t, "a number and blanks, as long as may be", strings.Repeat(" ", mostBytes-1)+"1", api.OK, 0)
	holdFault(t, "a number and blanks, too long", "1"+strings.Repeat(" ", mostBytes), api.ErrLong, 0)
	holdFault(t, "blanks", strings.Repeat("\n", mostBytes), api.ErrJSON, mostBytes)
	holdFault(t, "too many blanks", strings.Repeat("\n", mostBytes+1), api.ErrLong, 0)
	holdFault(t, "too long, and no UTF-8", strings.Repeat("\xff", mostBytes+1), api.ErrLong, 0)
	holdFault(t, "no UTF-8 at the end", strings.Repeat(" ", mostBytes-1)+"\xff", api.ErrUtf, mostBytes-1)
	holdFault(t, "a rune cut by the end", strings.Repeat(" ", mostBytes-2)+"\xe2\x82", api.ErrUtf, mostBytes-2)
	holdFault(t, "many times too long", strings.Repeat("[", 1<<22), api.ErrLong, 0)
	// The bytes count, not the runes.
	holdFault(t, "few runes, too long", `"`+strings.Repeat("\u00e9", mostBytes/2)+`"`, api.ErrLong, 0)
	if canon.Canon(text(mostBytes+1)) || !canon.Canon(text(mostBytes)) {
		t.Error("Canon at the greatest length")
	}
}

func TestDeep(t *testing.T) {
	const most = 32
	lists := func(n int) string { return strings.Repeat("[", n) + strings.Repeat("]", n) }
	objects := func(n int) string {
		return strings.Repeat(`{"a":`, n-1) + "{}" + strings.Repeat("}", n-1)
	}
	mixed := func(n int) string {
		return strings.Repeat(`[{"a":`, n/2) + "1" + strings.Repeat("}]", n/2)
	}
	for _, s := range []string{lists(1), lists(most), objects(most), mixed(most)} {
		v, err, at := canon.Parse(s)
		if err != api.OK || at != 0 || canon.Print(v) != s || !canon.Canon(s) {
			t.Errorf("%d bytes: error %d at %d", len(s), err, at)
		}
		holdParse(t, s)
	}
	if v, _, _ := canon.Parse(lists(most)); value.Deep(v) != most {
		t.Error("not as deep as written")
	}
	holdFault(t, "lists", lists(most+1), api.ErrDeep, most)
	holdFault(t, "objects", objects(most+1), api.ErrDeep, 5*most)
	holdFault(t, "both", mixed(most+2), api.ErrDeep, 6*most/2)
	holdFault(t, "blanks ahead", " "+strings.Repeat("[ ", most)+"{", api.ErrDeep, 2*most+1)
	holdFault(t, "a list, never closed", strings.Repeat("[", most+1), api.ErrDeep, most)
	holdFault(t, "as deep as may be, never closed", strings.Repeat("[", most), api.ErrJSON, most)
	holdFault(t, "only brackets", strings.Repeat("[", mostBytes), api.ErrDeep, most)
	holdFault(t, "an error ahead", "[1,,"+lists(most+1), api.ErrJSON, 3)
	holdFault(t, "an error behind", strings.Repeat("[", most+1)+"01", api.ErrDeep, most)
	holdFault(t, "a key that is there, ahead", `{"a":1,"a":`+lists(most), api.ErrTwice, 7)
	// Those that are closed count no more.
	inner := lists(most - 1)
	row := "[" + inner + "," + objects(most-1) + "," + inner + "]"
	holdFault(t, "one beside the other", row, api.OK, 0)
	holdFault(t, "too deep, beside another", "["+inner+","+lists(most)+"]", api.ErrDeep, 1+len(inner)+1+most-1)
	holdFault(t, "many in a row", strings.Repeat("[", most-1)+"[]"+strings.Repeat(",[],{}", 50)+strings.Repeat("]", most-1), api.OK, 0)
	// Where no value has to stand a bracket is none that goes deeper.
	holdFault(t, "a bracket where a comma has to be", strings.Repeat("[", most)+"1[", api.ErrJSON, most+1)
	holdFault(t, "a bracket where a key has to be", strings.Repeat("[", most-1)+"{[", api.ErrJSON, most)
	for n := range 40 {
		for _, s := range []string{lists(n), mixed(n), objects(n + 1), lists(n)[:n], strings.Repeat("[", n) + "1[", strings.Repeat("[", n) + "{["} {
			holdParse(t, s)
		}
	}
}

func TestGreatestNumbers(t *testing.T) {
	for d := int64(-3); d <= 3; d++ {
		for _, n := range []int64{0, 10, edge, -edge, 1 << 62, -1 << 62} {
			s := strconv.FormatInt(n+d, 10)
			want := api.OK
			if n+d > edge || n+d < -edge {
				want = api.ErrRange
			}
			v, err, at := canon.Parse(s)
			if err != want || at != 0 || err == api.OK && told(v) != told(num(n+d)) {
				t.Errorf("Parse(%s) = %s, %d, %d", s, told(v), err, at)
			}
			holdParse(t, s)
			holdParse(t, s+".0")
			holdParse(t, "0"+s)
		}
	}
	// A number that goes round 64 bits is beyond the greatest one all the same.
	for n := 1; n < 80; n++ {
		holdParse(t, "1"+strings.Repeat("0", n))
		holdParse(t, "-"+strings.Repeat("9", n))
	}
}

// TestManyKeys: objects as great as a row of bytes may be are read in a time
// that does not grow by squares.
func TestManyKeys(t *testing.T) {
	var parts, back []string
	for i := range 7000 {
		key := strconv.Itoa(9000 - i)
		parts = append(parts, `"`+key+`":1`)
		back = append(back, `"`+strconv.Itoa(1000+(i*3571)%7000)+`":1`)
	}
	for _, s := range []string{"{" + strings.Join(parts, ",") + "}", "{" + strings.Join(back, ",") + "}"} {
		v, err, _ := canon.Parse(s)
		if err != api.OK || len(v.Keys) != 7000 || !value.Right(v) {
			t.Fatalf("error %d, %d keys", err, len(v.Keys))
		}
		again, err, _ := canon.Parse(canon.Print(v))
		if err != api.OK || !value.Same(v, again) {
			t.Fatal("not there and back")
		}
		twice := s[:len(s)-1] + `,"2001":2}`
		holdFault(t, "a key more, there already", twice, api.ErrTwice, len(s))
	}
}
