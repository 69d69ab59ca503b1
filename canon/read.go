package canon

import (
	"strings"

	"heliast/api"
	"heliast/glyph"
	"heliast/value"
)

const blanks = " \t\n\r"

// reader goes through a row of bytes from the left, so that the first fault
// that it meets is the one to be told.
type reader struct {
	s    string
	at   int
	deep int // the lists and objects that at lies in
}

// read is the value of a row of bytes, or the first fault in it.
func read(s string) (api.Val, error) {
	if len(s) > api.MaxEvent {
		return api.Val{}, fault{api.ErrLong, 0}
	}
	if at := glyph.Check(s); at >= 0 {
		return api.Val{}, fault{api.ErrUtf, at}
	}
	r := &reader{s: s}
	r.skip()
	v, err := r.value()
	if err != nil {
		return api.Val{}, err
	}
	r.skip()
	if r.at < len(s) {
		return api.Val{}, fault{api.ErrJSON, r.at}
	}
	return v, nil
}

// value reads a value of whatever kind.
func (r *reader) value() (api.Val, error) {
	switch c := r.next(); {
	case c == '[':
		return r.list()
	case c == '{':
		return r.object()
	case c == '"':
		return r.text()
	case c == '-' || isDigit(c):
		return r.number()
	}
	return r.word()
}

// text reads a string, as a value.
func (r *reader) text() (api.Val, error) {
	s, n := glyph.Unquote(r.s[r.at:])
	if n == 0 {
		return api.Val{}, fault{api.ErrJSON, r.at}
	}
	r.at += n
	return value.Str(s), nil
}

// word reads a value that is written as a word. No word begins with another
// one: in whatever order they come, at most one of them is met.
func (r *reader) word() (api.Val, error) {
	for word, v := range words() {
		if strings.HasPrefix(r.s[r.at:], word) {
			r.at += len(word)
			return v, nil
		}
	}
	return api.Val{}, fault{api.ErrJSON, r.at}
}

func words() map[string]api.Val {
	return map[string]api.Val{
		"null":  {Kind: api.Null},
		"true":  {Kind: api.Truth, N: 1},
		"false": {Kind: api.Truth, N: 0},
	}
}

// skip goes on behind the blanks.
func (r *reader) skip() {
	r.at = len(r.s) - len(strings.TrimLeft(r.s[r.at:], blanks))
}

// next is the byte that stands next; at the end it is 0, with which nothing
// begins.
func (r *reader) next() byte {
	if r.at == len(r.s) {
		return 0
	}
	return r.s[r.at]
}

// take goes on behind a byte, if that stands next.
func (r *reader) take(c byte) bool {
	if r.next() != c {
		return false
	}
	r.at++
	return true
}
