package names

import (
	"iter"

	"heliast/api"
	"heliast/value"
)

const (
	anyBytes = '*'
	oneByte  = '?'
)

// Glob says whether a text is as a pattern has it. It comes back to the last
// star alone, as an earlier one that took more would but leave less to all that
// follows: so a pattern of many stars, which anybody may send, costs no more than
// its length by that of the text.
func Glob(pattern, s string) bool {
	p, i := 0, 0
	behind, taken := -1, 0 // behind the last star, and where what it took ends
match:
	for {
		switch {
		case p < len(pattern) && pattern[p] == anyBytes:
			p++
			behind, taken = p, i
		case i == len(s):
			break match
		case p < len(pattern) && (pattern[p] == oneByte || pattern[p] == s[i]):
			p++
			i++
		case behind < 0:
			return false
		default:
			taken++
			p, i = behind, taken
		}
	}
	return p == len(pattern)
}

// Let says whether a list of servers lets one in.
func Let(acl api.Val, host string) bool {
	if acl.Kind != api.Object {
		return true
	}
	return !meant(acl, "deny", host) && meant(acl, "allow", host)
}

// meant says whether a host is as one of the patterns by a key has it.
func meant(acl api.Val, key, host string) bool {
	for pattern := range patterns(acl, key) {
		if Glob(pattern, host) {
			return true
		}
	}
	return false
}

// patterns are the texts of the list by a key. Others send such lists, so there
// may be none, or one that has anything else in it: all that is no pattern.
func patterns(acl api.Val, key string) iter.Seq[string] {
	return func(yield func(string) bool) {
		list, _ := value.Get(acl, key)
		if list.Kind != api.List {
			return
		}
		for _, x := range list.List {
			if x.Kind == api.Text && !yield(x.Text) {
				return
			}
		}
	}
}
