package redact_test

import (
	"strings"
	"testing"

	"heliast/api"
	"heliast/canon"
	"heliast/redact"
	"heliast/value"
)

func TestHash(t *testing.T) {
	for _, c := range []struct{ s, want string }{
		{`{"type":"m.room.member","content":{"membership":"join","x":1},"y":2}`, "yng9oTWfUqWty-Z6AmTupMYk4FAejekQ0oFK_8SRimE"},
		{`{}`, "RBNvo1WzZ4oRRq0W9-hknpT7T8If536DEMBg9hyq_4o"},
		{`{"hashes":1}`, "RBNvo1WzZ4oRRq0W9-hknpT7T8If536DEMBg9hyq_4o"},
		{`{"unsigned":[2]}`, "RBNvo1WzZ4oRRq0W9-hknpT7T8If536DEMBg9hyq_4o"},
		{`{"hashes":{"sha256":"x"},"unsigned":{"a":1}}`, "RBNvo1WzZ4oRRq0W9-hknpT7T8If536DEMBg9hyq_4o"},
		{`null`, "dCNOmK_nSY-12vHzasLXiswzlGT5UHA7jAGYkvmCuQs"},
		{`5`, "7y0SfeN7lCuq0GFF5UsMYZofIjJ7LrvPvsePVWSv450"},
		{`[]`, "T1PNoYwrqgwDVLtfmj7L5e0Sq02OEbqHPC8RFhICuUU"},
		{`"hashes"`, "F53XPr_Ps-LY5uSIcMIezHiI-UikhlMIb5Anhjjqw80"},
		{`true`, "tb6kG2xiP3wJ8b8k3K5Y66s8DN2QrZZrxDpFtEhn4Ss"},
	} {
		if got := redact.Hash(read(t, c.s)); got != c.want {
			t.Errorf("Hash(%s) = %s, want %s", c.s, got, c.want)
		}
		hold(t, c.s)
	}
}

// TestHashHangs: a hash hangs on all keys but two, and on those where they lie
// inside; on what is redacted, too.
func TestHashHangs(t *testing.T) {
	v := read(t, `{"content":{"x":1},"type":"t"}`)
	sum := redact.Hash(v)
	for _, key := range append(eventKeys, contentKeys...) {
		for _, x := range []api.Val{{}, value.Num(1), value.Texts([]string{"a"}), value.With(api.Val{}, "sha256", value.Str(sum))} {
			same := redact.Hash(value.With(v, key, x)) == sum
			if want := key == "hashes" || key == "unsigned"; same != want {
				t.Errorf("Hash with %q: the same %v", key, same)
			}
			content, _ := value.Get(v, "content")
			if redact.Hash(value.With(v, "content", value.With(content, key, x))) == sum && (key != "x" || x.N != 1) {
				t.Errorf("Hash with %q in the content is the same", key)
			}
		}
	}
}

func TestSealed(t *testing.T) {
	for _, c := range []struct{ s, want string }{
		{`{}`, `{"hashes":{"sha256":"RBNvo1WzZ4oRRq0W9-hknpT7T8If536DEMBg9hyq_4o"}}`},
		{`{"hashes":7}`, `{"hashes":{"sha256":"RBNvo1WzZ4oRRq0W9-hknpT7T8If536DEMBg9hyq_4o"}}`},
		{`{"hashes":{"md5":"x","sha256":[]}}`, `{"hashes":{"sha256":"RBNvo1WzZ4oRRq0W9-hknpT7T8If536DEMBg9hyq_4o"}}`},
		{`{"unsigned":{"age":1}}`, `{"hashes":{"sha256":"RBNvo1WzZ4oRRq0W9-hknpT7T8If536DEMBg9hyq_4o"},"unsigned":{"age":1}}`},
		{`null`, `{"hashes":{"sha256":"dCNOmK_nSY-12vHzasLXiswzlGT5UHA7jAGYkvmCuQs"}}`},
		{`[]`, `{"hashes":{"sha256":"T1PNoYwrqgwDVLtfmj7L5e0Sq02OEbqHPC8RFhICuUU"}}`},
	} {
		if got := canon.Print(redact.Sealed(read(t, c.s))); got != c.want {
			t.Errorf("Sealed(%s) = %s, want %s", c.s, got, c.want)
		}
		hold(t, c.s)
	}
	for _, s := range someValues {
		once := redact.Sealed(read(t, object("a", s, "type", s, "z", s)))
		if twice := redact.Sealed(once); !value.Same(once, twice) || !redact.Hashed(once) {
			t.Errorf("what is sealed twice is %s, once %s", canon.Print(twice), canon.Print(once))
		}
	}
}

func TestHashed(t *testing.T) {
	body := `"content":{"x":1},"type":"t"`
	sum := redact.Hash(read(t, "{"+body+"}"))
	with := func(hashes string) string { return `{"hashes":` + hashes + `,` + body + `}` }
	right := `"` + sum + `"`
	for _, c := range []struct {
		name, s string
		want    bool
	}{
		{"as it is sealed", with(`{"sha256":` + right + `}`), true},
		{"other hashes beside", with(`{"md5":1,"sha256":` + right + `,"z":[]}`), true},
		{"something unsigned", `{"unsigned":{"age":7},` + with(`{"sha256":` + right + `}`)[1:], true},
		{"no hashes", "{" + body + "}", false},
		{"hashes null", with(`null`), false},
		{"hashes a text", with(right), false},
		{"hashes a list", with(`[` + right + `]`), false},
		{"hashes a list of an object", with(`[{"sha256":` + right + `}]`), false},
		{"hashes empty", with(`{}`), false},
		{"another key", with(`{"sha512":` + right + `}`), false},
		{"a key in another case", with(`{"SHA256":` + right + `}`), false},
		{"no text", with(`{"sha256":null}`), false},
		{"a number", with(`{"sha256":7}`), false},
		{"a list of it", with(`{"sha256":[` + right + `]}`), false},
		{"an object of it", with(`{"sha256":{"sha256":` + right + `}}`), false},
		{"an empty text", with(`{"sha256":""}`), false},
		{"padded", with(`{"sha256":"` + sum + `="}`), false},
		{"as a name", with(`{"sha256":"$` + sum + `"}`), false},
		{"cut", with(`{"sha256":"` + sum[:42] + `"}`), false},
		{"in another case", with(`{"sha256":"` + strings.ToUpper(sum) + `"}`), false},
		{"of another", with(`{"sha256":"` + redact.Hash(api.Val{}) + `"}`), false},
		{"another content", strings.Replace(with(`{"sha256":`+right+`}`), `"x":1`, `"x":2`, 1), false},
		{"a key more", `{"a":1,` + with(`{"sha256":` + right + `}`)[1:], false},
		{"a key less", `{"hashes":{"sha256":` + right + `},"type":"t"}`, false},
		{"hashes in the content", `{"content":{"hashes":{"sha256":` + right + `},"x":1},"type":"t"}`, false},
		{"a sum beside", `{"sha256":` + right + `,` + body + `}`, false},
		{"null", `null`, false},
		{"a list", `[{"hashes":{"sha256":` + right + `}}]`, false},
		{"a text", right, false},
	} {
		if got := redact.Hashed(read(t, c.s)); got != c.want {
			t.Errorf("%s: %v", c.name, got)
		}
		hold(t, c.s)
	}
	// Each letter of the sum counts.
	for i := range sum {
		b := []byte(sum)
		b[i] ^= 1
		if redact.Hashed(read(t, with(`{"sha256":`+canon.Print(value.Str(string(b)))+`}`))) {
			t.Errorf("another letter at %d", i)
		}
	}
}

// TestHashedRedacted: what was redacted has its name still; its hash holds only
// if nothing was lost.
func TestHashedRedacted(t *testing.T) {
	for s, want := range map[string]bool{
		`{"content":{"membership":"join"},"type":"m.room.member"}`:              true,
		`{"content":{"membership":"join","x":1},"type":"m.room.member"}`:        false,
		`{"content":{"x":1},"type":"m.room.create"}`:                            true,
		`{"content":{"x":1},"type":"m.room.create","y":1}`:                      false,
		`{"content":{"x":1},"type":"m.room.create","unsigned":{"redacted":[]}}`: true,
	} {
		sealed := redact.Sealed(read(t, s))
		once := redact.Redact(sealed)
		if redact.Hashed(once) != want || redact.ID(once) != redact.ID(sealed) {
			t.Errorf("%s", s)
		}
	}
}
