package canon

import (
	"errors"
	"strconv"
	"strings"

	"heliast/api"
	"heliast/value"
)

const digits = "0123456789"

// number reads a number.
func (r *reader) number() (api.Val, error) {
	from := r.at
	r.take('-')
	r.at = len(r.s) - len(strings.TrimLeft(r.s[r.at:], digits))
	n, err := whole(r.s[from:r.at])
	if errors.Is(err, strconv.ErrSyntax) {
		return api.Val{}, fault{api.ErrJSON, from}
	}
	if errors.Is(err, strconv.ErrRange) || isFraction(r.next()) {
		return api.Val{}, fault{api.ErrRange, from}
	}
	return value.Num(n), nil
}

// whole is the number that digits tell, perhaps behind a sign. Its errors are
// those of strconv, which takes noughts ahead, and numbers of 64 bits.
func whole(s string) (int64, error) {
	if hasNoughtAhead(s) {
		return 0, strconv.ErrSyntax
	}
	n, err := strconv.ParseInt(s, 10, 64)
	if err == nil && (n < -api.MaxInt || n > api.MaxInt) {
		return 0, strconv.ErrRange
	}
	return n, err
}

// hasNoughtAhead says whether digits begin with a nought that a number does not
// begin with: one ahead of another digit, or behind a sign.
func hasNoughtAhead(s string) bool {
	return s != "0" && strings.HasPrefix(strings.TrimPrefix(s, "-"), "0")
}

// isFraction says whether a byte behind digits makes them less than the whole
// of a number.
func isFraction(c byte) bool { return c == '.' || c == 'e' || c == 'E' }

func isDigit(c byte) bool { return c >= '0' && c <= '9' }
