package canon

import (
	"errors"
	"testing"

	"heliast/api"
)

// TestFault: all that is wrong is told as one kind of error, which Parse takes
// apart.
func TestFault(t *testing.T) {
	for s, want := range map[string]fault{
		"":                   {api.ErrJSON, 0},
		"1 \xff":             {api.ErrUtf, 2},
		"[1,]":               {api.ErrJSON, 3},
		"[1,2.5]":            {api.ErrRange, 3},
		"[1,01]":             {api.ErrJSON, 3},
		`{"a":1,"a":2}`:      {api.ErrTwice, 7},
		"[9007199254740992]": {api.ErrRange, 1},
	} {
		_, err := read(s)
		var f fault
		if !errors.As(err, &f) || f != want {
			t.Errorf("read(%q) tells %v, want %v", s, err, want)
		}
	}
	if got := (fault{api.ErrJSON, 3}).Error(); got != "heliast 11 at 3" {
		t.Errorf("a fault's text: %s", got)
	}
}
