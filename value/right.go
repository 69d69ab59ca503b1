package value

import (
	"heliast/api"
	"heliast/glyph"
)

// Right says whether a value is as it has to be.
func Right(v api.Val) bool {
	var right func(v api.Val) bool
	right = func(v api.Val) bool {
		if !rightKind(v) || !rightNumber(v) || !rightText(v) || !rightKeys(v) {
			return false
		}
		for _, x := range v.List {
			if !right(x) {
				return false
			}
		}
		return holds(v) || len(v.List) == 0
	}
	return right(v)
}

func rightKind(v api.Val) bool {
	return v.Kind >= api.Null && v.Kind <= api.Object
}

func rightNumber(v api.Val) bool {
	switch v.Kind {
	case api.Truth:
		return v.N == 0 || v.N == 1
	case api.Int:
		return v.N >= -api.MaxInt && v.N <= api.MaxInt
	}
	return v.N == 0
}

func rightText(v api.Val) bool {
	return v.Text == "" || v.Kind == api.Text && glyph.Check(v.Text) < 0
}

func rightKeys(v api.Val) bool {
	if v.Kind != api.Object {
		return len(v.Keys) == 0
	}
	for i, key := range v.Keys {
		if glyph.Check(key) >= 0 || i > 0 && !glyph.Less(v.Keys[i-1], key) {
			return false
		}
	}
	return len(v.Keys) == len(v.List)
}
