package canon

import (
	"strconv"

	"heliast/api"
)

// fault is what is wrong with a row of bytes, and where. Each error that
// reading one tells is a fault.
type fault struct {
	what api.Errno
	at   int
}

// Error is the fault as a text.
func (f fault) Error() string {
	return f.what.Error() + " at " + strconv.Itoa(f.at)
}
