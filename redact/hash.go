package redact

import (
	"heliast/api"
	"heliast/canon"
	"heliast/digest"
	"heliast/seal"
	"heliast/value"
)

// Hash is the name of all that an event has, but of what is told of it: its
// hashes, and what nobody stands for.
func Hash(v api.Val) string {
	rest := value.Without(value.Without(v, keyHashes), keyUnsigned)
	return seal.Text(digest.Sum([]byte(canon.Print(rest))))
}

// Sealed is an event with its hash.
func Sealed(v api.Val) api.Val {
	hashes := value.With(api.Val{}, keySum, value.Str(Hash(v)))
	return value.With(v, keyHashes, hashes)
}

// Hashed says whether an event has the hash that is its own. (By a key of what
// is no object value.Get tells nothing, and that is no text.)
func Hashed(v api.Val) bool {
	hashes, _ := value.Get(v, keyHashes)
	sum, _ := value.Get(hashes, keySum)
	return sum.Kind == api.Text && sum.Text == Hash(v)
}
