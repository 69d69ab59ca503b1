package event

import (
	"slices"
	"strings"

	"heliast/api"
	"heliast/value"
)

// Same says whether two events are alike in all that they hold.
func Same(a, b api.Event) bool {
	return a.ID == b.ID && a.Type == b.Type && a.Key == b.Key && a.Is == b.Is &&
		a.Sender == b.Sender && a.Room == b.Room &&
		slices.Equal(a.Prev, b.Prev) && slices.Equal(a.Auth, b.Auth) &&
		a.Depth == b.Depth && a.Time == b.Time && value.Same(a.Body, b.Body)
}

// fresh is the same event in new memory, its texts too.
func fresh(x api.Event) api.Event {
	return api.Event{
		ID:     strings.Clone(x.ID),
		Type:   strings.Clone(x.Type),
		Key:    strings.Clone(x.Key),
		Is:     x.Is,
		Sender: strings.Clone(x.Sender),
		Room:   strings.Clone(x.Room),
		Prev:   freshTexts(x.Prev),
		Auth:   freshTexts(x.Auth),
		Depth:  x.Depth,
		Time:   x.Time,
		Body:   value.Copy(x.Body),
	}
}

func freshTexts(l []string) []string {
	var out []string
	for _, s := range l {
		out = append(out, strings.Clone(s))
	}
	return out
}
