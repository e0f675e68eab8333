package text

import (
	"cartouche/api"
	"cartouche/fields"
	"cartouche/scalar"
)

// printer writes typed messages word by word, as long as there are not more bytes than a text may have.
type printer struct {
	types []api.Type
	bytes []byte
}

// room throws ErrTooBig, if so many bytes more would be too many: however great a message is, no more than a text is written.
func (p *printer) room(count int) {
	if count > api.MaxText-len(p.bytes) {
		panic(api.Fault{Code: api.ErrTooBig})
	}
}

func (p *printer) word(s string) {
	if len(p.bytes) > 0 {
		s = " " + s
	}
	p.room(len(s))
	p.bytes = append(p.bytes, s...)
}

func (p *printer) message(x api.Type, m api.Msg) {
	for _, f := range m.Fields {
		own, _ := fields.Find(x.Fields, f.Number)
		p.word(own.Name)
		p.field(own, f)
	}
	for _, u := range m.Unknown {
		p.entry(u)
	}
}

func (p *printer) field(own api.FieldType, f api.Field) {
	switch own.Label {
	case api.Plain, api.Optional, api.Member:
		if own.Kind != api.Message {
			p.word(signValue)
		}
		p.item(own, f.Vals[0])
	case api.Repeated, api.Packed:
		p.word(signList)
		for _, v := range f.Vals {
			p.item(own, v)
		}
		p.word(signListEnd)
	case api.Map:
		p.word(signMap)
		for i, key := range f.Keys {
			p.value(own.Key, key)
			p.word(signValue)
			p.item(own, f.Vals[i])
		}
		p.word(signMapEnd)
	}
}

// item writes a value of a field.
func (p *printer) item(own api.FieldType, v api.Val) {
	switch own.Kind {
	case api.Message:
		p.word(signMessage)
		p.message(p.types[own.Ref], v.M[0])
		p.word(signMessageEnd)
	case api.Enum:
		s, _ := fields.Symbol(p.types[own.Ref], func(s api.Symbol) bool { return uint64(s.Number) == v.N })
		p.word(s.Name)
	default:
		p.value(own.Kind, v)
	}
}

// value writes a value of a scalar kind.
func (p *printer) value(kind int, v api.Val) {
	p.room(len(v.B)) // quoted there are no fewer: asked ahead, so that no long text is made in vain
	s, _ := scalar.Text(kind, v)
	p.word(s)
}

func (p *printer) entry(u api.Entry) {
	p.word(signUnknown)
	p.number(uint64(u.Number))
	p.word(signMinus)
	p.number(uint64(u.Kind))
	p.word(signValue)
	if u.Kind == api.Chunk {
		p.value(api.Bytes, api.Val{B: u.B})
		return
	}
	p.number(u.N)
}

func (p *printer) number(n uint64) { p.value(api.Uint64, api.Val{N: n}) }
