package event

import (
	"slices"

	"heliast/api"
	"heliast/names"
	"heliast/seal"
	"heliast/value"
)

// Keys of an event.
const (
	keyAuth   = "auth_events"
	keyBody   = "content"
	keyDepth  = "depth"
	keyHashes = "hashes"
	keyPrev   = "prev_events"
	keyRoom   = "room_id"
	keySender = "sender"
	keyState  = "state_key"
	keyTime   = "origin_server_ts"
	keyType   = "type"
)

const longest = 80 // bytes of a type, and of a state's key

// fields are those of a value that is to be an event's.
type fields struct {
	from  api.Val
	wrong bool // one that was taken is not what it has to be
}

// take is the field by a key, as read tells it; read says, too, whether it is
// what it has to be. A field that is not there is taken as a Null, which none
// has to be.
func take[T any](f *fields, key string, read func(api.Val) (T, bool)) T {
	v, _ := value.Get(f.from, key)
	x, right := read(v)
	f.wrong = f.wrong || !right
	return x
}

// fieldsOf is the event of a value, but for its ID; false: the value has not the
// shape of an event.
func fieldsOf(v api.Val) (api.Event, bool) {
	f := &fields{from: v}
	x := api.Event{
		Type:   take(f, keyType, text(isShort)),
		Sender: take(f, keySender, text(names.User)),
		Room:   take(f, keyRoom, text(names.Room)),
		Prev:   take(f, keyPrev, edges),
		Auth:   take(f, keyAuth, edges),
		Depth:  take(f, keyDepth, count),
		Time:   take(f, keyTime, count),
		Body:   take(f, keyBody, object),
	}
	take(f, keyHashes, object)
	if _, x.Is = value.Get(v, keyState); x.Is {
		x.Key = take(f, keyState, text(isKey))
	}
	return x, !f.wrong
}

// text tells a text that is as it has to be.
func text(is func(string) bool) func(api.Val) (string, bool) {
	return func(v api.Val) (string, bool) {
		return v.Text, v.Kind == api.Text && is(v.Text)
	}
}

func isKey(s string) bool { return len(s) <= longest }

func isShort(s string) bool { return s != "" && isKey(s) }

// edges tells a list of names.
func edges(v api.Val) ([]string, bool) {
	if v.Kind != api.List || len(v.List) > api.MaxEdges {
		return nil, false
	}
	var out []string
	for _, x := range v.List {
		if x.Kind != api.Text || !seal.Named(x.Text) || slices.Contains(out, x.Text) {
			return nil, false
		}
		out = append(out, x.Text)
	}
	return out, true
}

// count tells a number of nought or more.
func count(v api.Val) (int64, bool) {
	return v.N, v.Kind == api.Int && v.N >= 0
}

func object(v api.Val) (api.Val, bool) {
	return v, v.Kind == api.Object
}

// told are an event's fields, each as a value by its key.
func told(x api.Event) map[string]api.Val {
	out := map[string]api.Val{
		keyAuth:   value.Texts(x.Auth),
		keyBody:   x.Body,
		keyDepth:  value.Num(x.Depth),
		keyPrev:   value.Texts(x.Prev),
		keyRoom:   value.Str(x.Room),
		keySender: value.Str(x.Sender),
		keyTime:   value.Num(x.Time),
		keyType:   value.Str(x.Type),
	}
	if x.Is {
		out[keyState] = value.Str(x.Key)
	}
	return out
}
