package model

import (
	"cartouche/api"
	"cartouche/fields"
	"cartouche/quote"
	"cartouche/scalar"
	"cartouche/wire"
)

// rules tell what a good table asks of messages.
type rules struct{ types []api.Type }

// areKept tells whether a message is typed by a type, with all messages within.
func (r rules) areKept(x api.Type, m api.Msg) bool { return walk(x, m, r.hold, r.below) }

// below tells the type of the messages in a field. (Of a field of another kind no message is asked.)
func (r rules) below(x api.Type, f api.Field) api.Type {
	own, _ := fields.Find(x.Fields, f.Number)
	return r.types[own.Ref]
}

// hold tells whether a message is typed, but for what the messages within hold themselves.
func (r rules) hold(x api.Type, m api.Msg) bool {
	isTyped := func(f api.Field) bool {
		own, ok := fields.Find(x.Fields, f.Number)
		return ok && r.fieldIsTyped(own, f)
	}
	return doRise(m.Fields) && every(m.Fields, isTyped) && areSingle(x, m.Fields) && every(m.Unknown, isEntry)
}

func doRise(l []api.Field) bool {
	for i := 1; i < len(l); i++ {
		if l[i-1].Number >= l[i].Number {
			return false
		}
	}
	return true
}

// areSingle tells whether of each oneof at most one member is there.
func areSingle(x api.Type, l []api.Field) bool {
	var taken [api.MaxFields]bool // a good table has no more oneofs: each has a field
	for _, f := range l {
		own, _ := fields.Find(x.Fields, f.Number)
		if own.Label != api.Member {
			continue
		}
		if taken[own.Oneof] {
			return false
		}
		taken[own.Oneof] = true
	}
	return true
}

func isEntry(x api.Entry) bool {
	_, e := wire.PutEntry(x)
	return e == api.OK
}

func (r rules) fieldIsTyped(own api.FieldType, f api.Field) bool {
	isVal := func(v api.Val) bool { return r.valIsTyped(own, v) }
	isKey := func(v api.Val) bool { return isScalar(own.Key, v) }
	return hasShape(own.Label, f) && every(f.Vals, isVal) && every(f.Keys, isKey) && keysRise(own.Key, f.Keys)
}

// hasShape tells whether there are as many keys and values as a label has.
func hasShape(label int, f api.Field) bool {
	switch label {
	case api.Repeated, api.Packed:
		return len(f.Keys) == 0
	case api.Map:
		return len(f.Keys) == len(f.Vals)
	}
	return len(f.Keys) == 0 && len(f.Vals) == 1
}

func keysRise(kind int, l []api.Val) bool {
	for i := 1; i < len(l); i++ {
		if order, _ := scalar.Compare(kind, l[i-1], l[i]); order >= 0 {
			return false
		}
	}
	return true
}

// valIsTyped leaves it to the walk to ask of a message what it holds.
func (r rules) valIsTyped(own api.FieldType, v api.Val) bool {
	switch own.Kind {
	case api.Message:
		return v.N == 0 && len(v.B) == 0 && len(v.M) == 1
	case api.Enum:
		return scalar.Fits(api.Enum, v) && fields.HasSymbol(r.types[own.Ref], v.N)
	}
	return isScalar(own.Kind, v)
}

func isScalar(kind int, v api.Val) bool {
	return scalar.Fits(kind, v) && (kind != api.String || quote.Valid(v.B))
}
