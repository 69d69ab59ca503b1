package canon_test

import (
	"encoding/json"
	"regexp"
	"slices"
	"strconv"
	"strings"
	"unicode/utf8"
	"unsafe"

	"heliast/api"
)

// What the chapter says, written down a second time by other means: pieces are
// cut by patterns, lists and objects lie on a stack, what may stand next is a
// name.

var (
	refBlanks = regexp.MustCompile(`^[\x20\x09\x0a\x0d]*`)
	refWord   = regexp.MustCompile(`^(?:null|true|false)`)
	refDigits = regexp.MustCompile(`^-?[0-9]*`)
	refNumber = regexp.MustCompile(`^(?:0|-?[1-9][0-9]*)$`)
	refString = regexp.MustCompile(`^"(?:[^\x00-\x1f"\\]|\\["\\/bfnrt]` +
		`|\\u(?:[0-9a-ce-fA-CE-F][0-9a-fA-F]{3}|[dD][0-7][0-9a-fA-F]{2})` +
		`|\\u[dD][89abAB][0-9a-fA-F]{2}\\u[dD][c-fC-F][0-9a-fA-F]{2})*"`)
)

// refOpen is a list or an object that is not at its end.
type refOpen struct {
	last string
	keys []string
	vals []api.Val
}

// refReader is what was met so far.
type refReader struct {
	s     string
	at    int
	stack []*refOpen
	may   string // what may stand next
	whole api.Val
	err   api.Errno
}

func refParse(s string) (api.Val, api.Errno, int) {
	if len(s) > 65536 {
		return api.Val{}, 3, 0
	}
	for i := 0; i < len(s); {
		r, n := utf8.DecodeRuneInString(s[i:])
		if r == utf8.RuneError && n == 1 {
			return api.Val{}, 10, i
		}
		i += n
	}
	r := &refReader{s: s, may: "value"}
	for r.may != "done" {
		r.at += len(refBlanks.FindString(s[r.at:]))
		r.step(s[r.at:])
		if r.err != 0 {
			return api.Val{}, r.err, r.at
		}
	}
	return r.whole, 0, 0
}

// step goes behind one piece, or tells an error.
func (r *refReader) step(rest string) {
	first := ""
	if rest != "" {
		first = rest[:1]
	}
	switch r.may {
	case "end":
		if rest == "" {
			r.may = "done"
			return
		}
	case "first", "more":
		open := r.stack[len(r.stack)-1]
		if first == open.last {
			r.at++
			r.closed(open)
			return
		}
		if r.may == "more" && first == "," {
			r.at++
			r.may = "value"
			if open.last == "}" {
				r.may = "key"
			}
			return
		}
		if r.may == "first" && open.last == "}" {
			r.key(rest)
			return
		}
		if r.may == "first" {
			r.value(first, rest)
			return
		}
	case "key":
		r.key(rest)
		return
	case "colon":
		if first == ":" {
			r.at++
			r.may = "value"
			return
		}
	case "value":
		r.value(first, rest)
		return
	}
	r.err = 11
}

func (r *refReader) key(rest string) {
	open := r.stack[len(r.stack)-1]
	quoted := refString.FindString(rest)
	if quoted == "" {
		r.err = 11
		return
	}
	k := refText(quoted)
	if slices.Contains(open.keys, k) {
		r.err = 14
		return
	}
	open.keys = append(open.keys, k)
	r.at += len(quoted)
	r.may = "colon"
}

func (r *refReader) value(first, rest string) {
	if first == "[" || first == "{" {
		if len(r.stack) >= 32 {
			r.err = 12
			return
		}
		r.stack = append(r.stack, &refOpen{last: map[string]string{"[": "]", "{": "}"}[first]})
		r.at++
		r.may = "first"
		return
	}
	if word := refWord.FindString(rest); word != "" {
		r.had(map[string]api.Val{"null": {}, "true": {Kind: 1, N: 1}, "false": {Kind: 1}}[word], word)
		return
	}
	if quoted := refString.FindString(rest); quoted != "" {
		r.had(api.Val{Kind: 3, Text: refText(quoted)}, quoted)
		return
	}
	r.number(refDigits.FindString(rest), rest)
}

func (r *refReader) number(digits, rest string) {
	if !refNumber.MatchString(digits) {
		r.err = 11
		return
	}
	// A number of more digits than the greatest one has is beyond it; all
	// others are told exactly by 64 bits.
	const most = 9007199254740991
	n, _ := strconv.ParseInt(digits, 10, 64)
	behind := rest[len(digits):]
	if len(strings.TrimPrefix(digits, "-")) > 16 || n > most || n < -most ||
		behind != "" && strings.Contains(".eE", behind[:1]) {
		r.err = 13
		return
	}
	r.had(api.Val{Kind: 2, N: n}, digits)
}

func (r *refReader) had(v api.Val, piece string) {
	r.at += len(piece)
	r.put(v)
}

func (r *refReader) put(v api.Val) {
	if len(r.stack) == 0 {
		r.whole, r.may = v, "end"
		return
	}
	open := r.stack[len(r.stack)-1]
	open.vals = append(open.vals, v)
	r.may = "more"
}

func (r *refReader) closed(open *refOpen) {
	r.stack = r.stack[:len(r.stack)-1]
	if open.last == "]" {
		r.put(api.Val{Kind: 4, List: open.vals})
		return
	}
	v := api.Val{Kind: 5}
	sorted := slices.Sorted(slices.Values(open.keys))
	for _, k := range sorted {
		v.Keys = append(v.Keys, k)
		v.List = append(v.List, open.vals[slices.Index(open.keys, k)])
	}
	r.put(v)
}

func refText(quoted string) string {
	var s string
	if err := json.Unmarshal([]byte(quoted), &s); err != nil {
		panic(err)
	}
	return s
}

// refPrint puts the pieces of a right value into lists, which it joins.
func refPrint(v api.Val) string {
	switch v.Kind {
	case 0:
		return "null"
	case 1:
		return []string{"false", "true"}[v.N]
	case 2:
		return strconv.Itoa(int(v.N))
	case 3:
		return refQuote(v.Text)
	}
	var parts []string
	for i, x := range v.List {
		part := refPrint(x)
		if v.Kind == 5 {
			part = refQuote(v.Keys[i]) + ":" + part
		}
		parts = append(parts, part)
	}
	all := strings.Join(parts, ",")
	if v.Kind == 4 {
		return "[" + all + "]"
	}
	return "{" + all + "}"
}

func refQuote(s string) string {
	var swaps []string
	for c := range 0x20 {
		swaps = append(swaps, string(rune(c)), `\u00`+strconv.FormatInt(int64(c/16), 16)+strconv.FormatInt(int64(c%16), 16))
	}
	// Of two swaps for one text the first one holds.
	short := []string{`"`, `\"`, `\`, `\\`, "\x08", `\b`, "\x09", `\t`, "\x0a", `\n`, "\x0c", `\f`, "\x0d", `\r`}
	return `"` + strings.NewReplacer(append(short, swaps...)...).Replace(s) + `"`
}

// told is a text that two values share only if all of their fields are alike.
func told(v api.Val) string {
	out := "(" + strconv.Itoa(v.Kind) + " " + strconv.FormatInt(v.N, 10) + " " + strconv.Quote(v.Text) + " ["
	for _, k := range v.Keys {
		out += strconv.Quote(k) + ","
	}
	out += "] ["
	for _, x := range v.List {
		out += told(x) + ","
	}
	return out + "])"
}

type area struct{ from, to uintptr }

func textArea(s string) area {
	p := uintptr(unsafe.Pointer(unsafe.StringData(s)))
	return area{p, p + uintptr(len(s))}
}

// areas are all the pieces of memory that a value lies in.
func areas(v api.Val) []area {
	out := []area{textArea(v.Text)}
	add := func(p unsafe.Pointer, size uintptr) {
		out = append(out, area{uintptr(p), uintptr(p) + size})
	}
	add(unsafe.Pointer(unsafe.SliceData(v.Keys)), uintptr(cap(v.Keys))*unsafe.Sizeof(""))
	add(unsafe.Pointer(unsafe.SliceData(v.List)), uintptr(cap(v.List))*unsafe.Sizeof(api.Val{}))
	for _, k := range v.Keys {
		out = append(out, textArea(k))
	}
	for _, x := range v.List {
		out = append(out, areas(x)...)
	}
	return slices.DeleteFunc(out, func(a area) bool { return a.from == a.to })
}

func meet(a, b area) bool { return a.from < b.to && b.from < a.to }
