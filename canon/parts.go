package canon

import (
	"slices"

	"heliast/api"
	"heliast/glyph"
)

// list reads a list.
func (r *reader) list() (api.Val, error) {
	l := &elements{from: r}
	if err := r.parts(']', l.read); err != nil {
		return api.Val{}, err
	}
	return api.Val{Kind: api.List, List: l.list}, nil
}

// object reads an object.
func (r *reader) object() (api.Val, error) {
	o := &pairs{from: r, there: map[string]bool{}}
	if err := r.parts('}', o.read); err != nil {
		return api.Val{}, err
	}
	return o.object(), nil
}

// parts reads all from the byte that a list or an object begins with up to the
// last one; each of its parts is read by part.
func (r *reader) parts(last byte, part func() error) error {
	if r.deep == api.MaxDepth {
		return fault{api.ErrDeep, r.at}
	}
	r.deep++
	r.at++
	r.skip()
	if !r.take(last) {
		if err := r.series(last, part); err != nil {
			return err
		}
	}
	r.deep--
	return nil
}

// series reads one part or more, and the last byte behind them.
func (r *reader) series(last byte, part func() error) error {
	for {
		if err := part(); err != nil {
			return err
		}
		r.skip()
		if r.take(last) {
			return nil
		}
		if !r.take(',') {
			return fault{api.ErrJSON, r.at}
		}
		r.skip()
	}
}

// elements are a list's values, as far as they are read.
type elements struct {
	from *reader
	list []api.Val
}

// read reads one value more.
func (l *elements) read() error {
	v, err := l.from.value()
	if err != nil {
		return err
	}
	l.list = append(l.list, v)
	return nil
}

// pair is a key and its value.
type pair struct {
	key string
	val api.Val
}

// pairs are an object's, as far as they are read, in the order in which they
// were met: they are put in the order of their keys when all are there.
type pairs struct {
	from  *reader
	there map[string]bool
	list  []pair
}

// read reads one pair more.
func (o *pairs) read() error {
	at := o.from.at
	key, err := o.from.text()
	if err != nil {
		return err
	}
	if o.there[key.Text] {
		return fault{api.ErrTwice, at}
	}
	o.there[key.Text] = true
	o.from.skip()
	if !o.from.take(':') {
		return fault{api.ErrJSON, o.from.at}
	}
	o.from.skip()
	v, err := o.from.value()
	if err != nil {
		return err
	}
	o.list = append(o.list, pair{key.Text, v})
	return nil
}

// object is the value of all pairs.
func (o *pairs) object() api.Val {
	slices.SortFunc(o.list, byKey)
	v := api.Val{Kind: api.Object}
	for _, p := range o.list {
		v.Keys = append(v.Keys, p.key)
		v.List = append(v.List, p.val)
	}
	return v
}

func byKey(a, b pair) int {
	switch {
	case glyph.Less(a.key, b.key):
		return -1
	case glyph.Less(b.key, a.key):
		return 1
	}
	return 0
}
