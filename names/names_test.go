package names_test

import (
	"math/rand"
	"strings"
	"testing"

	"heliast/names"
)

const (
	local40 = "abcdefghijklmnopqrstuvwxyz0123456789._=-"
	host40  = "abcdefghijklmnopqrstuvwxyz0123456789.-.-"
)

// refSigns: all that the chapter lets stand in a name.
const (
	refLocal = "abcdefghijklmnopqrstuvwxyz0123456789._=-/"
	refHost  = "abcdefghijklmnopqrstuvwxyz0123456789.-"
)

// refMade goes by bytes, where the program goes by runes.
func refMade(s, signs string) bool {
	for i := 0; i < len(s); i++ {
		if strings.IndexByte(signs, s[i]) < 0 {
			return false
		}
	}
	return len(s) >= 1 && len(s) <= 40
}

// refServer tries each colon: the chapter does not say which one parts a name.
func refServer(s string, sign byte) string {
	if s == "" || s[0] != sign {
		return ""
	}
	for i := range s {
		if s[i] == ':' && refMade(s[1:i], refLocal) && refMade(s[i+1:], refHost) {
			return s[i+1:]
		}
	}
	return ""
}

func checkAll(t *testing.T, s string) {
	t.Helper()
	user, room := refServer(s, '@'), refServer(s, '!')
	if got := names.User(s); got != (user != "") {
		t.Errorf("User(%q) = %v", s, got)
	}
	if got := names.Room(s); got != (room != "") {
		t.Errorf("Room(%q) = %v", s, got)
	}
	if got := names.Server(s); got != user+room {
		t.Errorf("Server(%q) = %q, want %q", s, got, user+room)
	}
	if got := names.Host(s); got != refMade(s, refHost) {
		t.Errorf("Host(%q) = %v", s, got)
	}
}

func TestHost(t *testing.T) {
	for _, c := range []struct {
		s    string
		want bool
	}{
		{"b.c", true},
		{"a", true},
		{"0", true},
		{"9", true},
		{"z", true},
		{".", true},
		{"-", true},
		{"..--", true},
		{host40, true},
		{host40[1:], true},
		{"", false},
		{host40 + "a", false},
		{strings.Repeat("a", 80), false},
		{"A", false},
		{"a_b", false},
		{"a=b", false},
		{"a/b", false},
		{"a:b", false},
		{"a:8448", false},
		{"@a:b", false},
		{"a b", false},
		{" a", false},
		{"a\n", false},
		{"a\x00", false},
		{"*", false},
		{"\u00e9", false},
		{"\uff41", false},
		{"a\xff", false},
		{"\ufffd", false},
	} {
		if got := names.Host(c.s); got != c.want {
			t.Errorf("Host(%q) = %v", c.s, got)
		}
	}
}

func TestUserAndRoom(t *testing.T) {
	for _, c := range []struct {
		rest string
		host string // nothing: it is no name
	}{
		{"a:b.c", "b.c"},
		{"a:b", "b"},
		{"0:9", "9"},
		{"._=-/:.-", ".-"},
		{"/:-", "-"},
		{local40 + ":b", "b"},
		{"a:" + host40, host40},
		{local40 + ":" + host40, host40},
		{"", ""},
		{":", ""},
		{"a", ""},
		{"a:", ""},
		{":b", ""},
		{"a:b:c", ""},
		{"a::b", ""},
		{":a:b", ""},
		{"a:b:", ""},
		{"a.b", ""},
		{local40 + "a:b", ""},
		{"a:" + host40 + "a", ""},
		{"A:b", ""},
		{"a:B", ""},
		{"a:b_c", ""},
		{"a:b=c", ""},
		{"a:b/c", ""},
		{"a b:c", ""},
		{"a :b", ""},
		{"a: b", ""},
		{"a:b ", ""},
		{"@a:b", ""},
		{"!a:b", ""},
		{"a@:b", ""},
		{"a+b:c", ""},
		{"\u00e9:b", ""},
		{"a:\u00e9", ""},
		{"\xff:b", ""},
		{"a:\xff", ""},
		{"a\x00:b", ""},
		{"a:b\x00", ""},
		{"a\ufffd:b", ""},
		{"a:b\ufffd", ""},
	} {
		want := c.host != ""
		if got := names.User("@" + c.rest); got != want {
			t.Errorf("User(%q) = %v", "@"+c.rest, got)
		}
		if got := names.Room("!" + c.rest); got != want {
			t.Errorf("Room(%q) = %v", "!"+c.rest, got)
		}
		for _, sign := range []string{"@", "!"} {
			if got := names.Server(sign + c.rest); got != c.host {
				t.Errorf("Server(%q) = %q, want %q", sign+c.rest, got, c.host)
			}
		}
		if names.User("!"+c.rest) || names.Room("@"+c.rest) {
			t.Errorf("%q: a room is no user, and a user no room", c.rest)
		}
		for _, sign := range []string{"", "#", "$", "@!", "!@", "@@", "!!", " @", " !", "\x00@"} {
			checkAll(t, sign+c.rest)
		}
	}
}

// TestEachByte: each byte at each place of a name, in its stead and ahead of it.
func TestEachByte(t *testing.T) {
	for _, name := range []string{"@a/0:b.c", "!a/0:b.c", "b.c", "@" + local40 + ":" + host40, "!" + local40 + ":" + host40, host40} {
		for i := range len(name) {
			for b := range 256 {
				checkAll(t, name[:i]+string([]byte{byte(b)})+name[i+1:])
				checkAll(t, name[:i]+string([]byte{byte(b)})+name[i:])
			}
			checkAll(t, name[:i]+name[i+1:])
			checkAll(t, name[:i])
			checkAll(t, name[i:])
		}
		checkAll(t, name)
	}
}

// TestEachRune: none beyond ASCII may stand anywhere, not one whose low bits are
// those of a letter either.
func TestEachRune(t *testing.T) {
	for r := rune(0); r <= 0x10ffff; r++ {
		s := string(r)
		if names.Host(s) != refMade(s, refHost) || names.User("@"+s+":a") != refMade(s, refLocal) {
			t.Fatalf("a name of the rune %x", r)
		}
	}
}

// TestSmallTexts: all texts of few signs.
func TestSmallTexts(t *testing.T) {
	each("@!:a_\xc3", 6, func(s string) { checkAll(t, s) })
}

func TestLengths(t *testing.T) {
	for n := range 90 {
		for m := range 90 {
			local, host := strings.Repeat("a", n), strings.Repeat("b", m)
			for _, s := range []string{"@" + local + ":" + host, "!" + local + ":" + host} {
				checkAll(t, s)
			}
		}
	}
	long := strings.Repeat("a", 1<<24)
	for _, s := range []string{long, "@" + long, "@" + long + ":b", "@a:" + long, "!" + strings.Repeat(":", 1<<24)} {
		if names.User(s) || names.Room(s) || names.Host(s) || names.Server(s) != "" {
			t.Error("a very long text is taken for a name")
		}
	}
	// Twenty letters of two bytes each are forty bytes, and no letters of a name.
	if names.Host(strings.Repeat("\u00e9", 20)) || names.Host(strings.Repeat("\u00e9", 40)) {
		t.Error("letters of two bytes")
	}
}

func TestSpoiltNames(t *testing.T) {
	draw := rand.New(rand.NewSource(6))
	signs := refLocal + "@!:A~\x00\xff"
	for range 200000 {
		b := []byte("@ab.c:d-e.f")
		b[0] = "@!"[draw.Intn(2)]
		for range draw.Intn(3) {
			b[draw.Intn(len(b))] = signs[draw.Intn(len(signs))]
		}
		checkAll(t, string(b))
	}
}

// each hands on all texts of at most so many of these bytes.
func each(signs string, most int, use func(string)) {
	var grow func(s string)
	grow = func(s string) {
		use(s)
		if len(s) == most {
			return
		}
		for i := range len(signs) {
			grow(s + signs[i:i+1])
		}
	}
	grow("")
}
