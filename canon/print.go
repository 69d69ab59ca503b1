package canon

import (
	"strconv"
	"strings"

	"heliast/api"
	"heliast/glyph"
)

// Print is a value's row of bytes.
func Print(v api.Val) string {
	p := &printer{}
	p.value(v)
	return p.out.String()
}

// printer puts rows of bytes one behind the other.
type printer struct {
	out strings.Builder
}

func (p *printer) value(v api.Val) {
	switch v.Kind {
	case api.Truth:
		p.out.WriteString(strconv.FormatBool(v.N != 0))
	case api.Int:
		p.out.WriteString(strconv.FormatInt(v.N, 10))
	case api.Text:
		p.out.WriteString(glyph.Quote(v.Text))
	case api.List:
		p.list(v)
	case api.Object:
		p.object(v)
	default:
		p.out.WriteString("null")
	}
}

func (p *printer) list(v api.Val) {
	p.out.WriteByte('[')
	for i, x := range v.List {
		p.comma(i)
		p.value(x)
	}
	p.out.WriteByte(']')
}

// object puts an object's pairs: in one that is not right a key may be without
// a value, or a value without a key.
func (p *printer) object(v api.Val) {
	p.out.WriteByte('{')
	for i := range min(len(v.Keys), len(v.List)) {
		p.comma(i)
		p.out.WriteString(glyph.Quote(v.Keys[i]))
		p.out.WriteByte(':')
		p.value(v.List[i])
	}
	p.out.WriteByte('}')
}

// comma puts what stands ahead of the part with the number i.
func (p *printer) comma(i int) {
	if i > 0 {
		p.out.WriteByte(',')
	}
}
