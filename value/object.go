package value

import (
	"slices"

	"heliast/api"
	"heliast/glyph"
)

// Get is what an object has by a key; false: it has nothing by it.
func Get(v api.Val, key string) (api.Val, bool) {
	at := placeOf(v, key)
	if at < 0 {
		return api.Val{}, false
	}
	return Copy(v.List[at]), true
}

// With is an object with one key more, or with another value by a key.
func With(v api.Val, key string, x api.Val) api.Val {
	if v.Kind != api.Object {
		v = api.Val{Kind: api.Object}
	}
	from := placeOf(v, key)
	to := from + 1
	if from < 0 {
		from = roomFor(v, key)
		to = from
	}
	keys, list := pairs(v)
	v.Keys = put(keys, from, to, key)
	v.List = put(list, from, to, x)
	return Copy(v)
}

// Without is an object without a key, and without what it has by it.
func Without(v api.Val, key string) api.Val {
	at := placeOf(v, key)
	if at >= 0 {
		keys, list := pairs(v)
		v.Keys = put(keys, at, at+1)
		v.List = put(list, at, at+1)
	}
	return Copy(v)
}

// pairs are an object's keys that have a value, and the values that have a key:
// in one that is not right some may have none.
func pairs(v api.Val) ([]string, []api.Val) {
	n := min(len(v.Keys), len(v.List))
	return v.Keys[:n], v.List[:n]
}

// placeOf is where a key and its value stand in an object; below 0: nowhere.
func placeOf(v api.Val, key string) int {
	if v.Kind != api.Object {
		return -1
	}
	keys, _ := pairs(v)
	return slices.Index(keys, key)
}

// roomFor is where a key that is not in an object is put in.
func roomFor(v api.Val, key string) int {
	keys, _ := pairs(v)
	ahead := slices.IndexFunc(keys, func(k string) bool { return !glyph.Less(k, key) })
	if ahead < 0 {
		return len(keys)
	}
	return ahead
}

// put is a new list of those of l with others in place of those from from up to
// to.
func put[T any](l []T, from, to int, others ...T) []T {
	return slices.Concat(l[:from], others, l[to:])
}
