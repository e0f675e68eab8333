package evolve

import (
	"cartouche/api"
)

// named is a field with the names that stand behind its indices: in another table the same ones may stand elsewhere. A name is empty where the field has no such index.
type named struct {
	api.FieldType
	ref, oneof string
}

func (x placed) field(f api.FieldType) named {
	out := named{FieldType: f}
	if f.Kind == api.Enum || f.Kind == api.Message {
		out.ref = x.beside[f.Ref].Name
	}
	if f.Label == api.Member {
		out.oneof = x.Oneofs[f.Oneof]
	}
	return out
}

// compareFields gathers what changed between two fields of one number. Of one kind both have a ref or none has; so it is with labels, oneofs and keys.
func compareFields(from, to named, tell gather) {
	if from.Name != to.Name {
		tell(Renamed, from.Number, Widening)
	}
	switch {
	case from.Kind != to.Kind:
		tell(Retyped, from.Number, wideningIf(Wider(from.Kind, to.Kind)))
	case from.ref != to.ref:
		tell(Retyped, from.Number, Breaking)
	}
	switch {
	case from.Label != to.Label:
		tell(Relabelled, from.Number, wideningIf(mayRelabel(from.FieldType, to.FieldType)))
	case from.oneof != to.oneof:
		tell(Relabelled, from.Number, Breaking)
	case from.Key != to.Key:
		tell(Retyped, from.Number, Breaking)
	}
}

// mayRelabel tells whether a label may become another one.
func mayRelabel(from, to api.FieldType) bool {
	isBetween := func(a, b int) bool { // either way
		return from.Label == a && to.Label == b || from.Label == b && to.Label == a
	}
	if isBetween(api.Plain, api.Optional) {
		return from.Kind != api.Message && to.Kind != api.Message
	}
	return isBetween(api.Repeated, api.Packed)
}
