package check

import (
	"cmp"
	"slices"

	"cartouche/api"
	"cartouche/parse"
	"cartouche/scalar"
)

// What Packed of a field's tree says; 0, if nothing is said.
const (
	notSaid     = 0
	packedFalse = 2
)

// taken are the names and numbers of a message: its fields' ones to the first fields that have them.
type taken struct {
	names, oneofs map[string]int
	numbers       map[uint64]int
}

func takenIn(d parse.Decl) taken {
	return taken{
		names:   firsts(d.Fields, func(f parse.Field) string { return f.Name }),
		oneofs:  firsts(d.Oneofs, nameOfOneof),
		numbers: firsts(d.Fields, func(f parse.Field) uint64 { return f.Number }),
	}
}

// fields tells a message's, each looked at in the text's order ahead of being sorted.
func (b *bundle) fields(d decl) ([]api.FieldType, api.Fault) {
	var out []api.FieldType
	known := takenIn(d.tree)
	for i, f := range d.tree.Fields {
		if i >= api.MaxFields {
			return nil, d.at(f.At).fault(api.ErrLimit)
		}
		if fault := d.lookAtField(f, known); fault.Code != api.OK {
			return nil, fault
		}
		x, fault := b.typed(d, f)
		if fault.Code != api.OK {
			return nil, fault
		}
		out = append(out, x)
	}
	slices.SortFunc(out, func(a, b api.FieldType) int { return cmp.Compare(a.Number, b.Number) })
	return out, api.Fault{}
}

// lookAtField asks for a field's name and its number.
func (d decl) lookAtField(f parse.Field, known taken) api.Fault {
	l := d.tree.Fields
	_, oneof := known.oneofs[f.Name]
	switch {
	case oneof || l[known.names[f.Name]].At != f.At:
		return d.at(f.At).fault(api.ErrDup)
	case !isNumber(f.Number):
		return d.at(f.NumberAt).fault(api.ErrRange)
	case l[known.numbers[f.Number]].At != f.At || meets(parse.Range{Low: f.Number, High: f.Number}, d.tree.Reserved):
		return d.at(f.NumberAt).fault(api.ErrNumber)
	}
	return api.Fault{}
}

// typed tells a field whose name and number are good.
func (b *bundle) typed(d decl, f parse.Field) (api.FieldType, api.Fault) {
	kind, ref, ok := b.resolved(d, f.Type)
	if !ok {
		return api.FieldType{}, d.at(f.TypeAt).fault(api.ErrName)
	}
	key, _ := scalar.Kind(f.Key)
	if !markFits(f, kind, key) {
		return api.FieldType{}, d.at(f.MarkAt).fault(api.ErrOption)
	}
	out := api.FieldType{Name: f.Name, Number: int(f.Number), Kind: kind, Ref: ref, Label: labelOf(f, kind), Oneof: f.Oneof, Key: key}
	return out, api.Fault{}
}

// resolved tells the kind of a type that is written in a message, and the index of the declaration that it stands for.
func (b *bundle) resolved(d decl, written string) (kind, ref int, ok bool) {
	if kind, e := scalar.Kind(written); e == api.OK {
		return kind, 0, true
	}
	name, ok := Resolve(b.seen[d.spot.file-1], d.name, written)
	if !ok {
		return 0, 0, false
	}
	ref = b.index[name]
	if b.decls[ref].tree.Enum {
		return api.Enum, ref, true
	}
	return api.Message, ref, true
}

// markFits tells whether what is said beside a field's type is allowed of its kind, and of its key's (0, if the key is no kind's name).
func markFits(f parse.Field, kind, key int) bool {
	switch {
	case f.Packed != notSaid:
		return f.Label == api.Repeated && scalar.Numeric(kind)
	case f.Label == api.Optional:
		return kind != api.Message
	case f.Label == api.Map:
		return scalar.IsKey(key)
	}
	return true
}

// labelOf tells a field's label in the table, where messages that stand alone are always told if they are there, and rows of numbers are packed.
func labelOf(f parse.Field, kind int) int {
	switch {
	case f.Label == api.Plain && kind == api.Message:
		return api.Optional
	case f.Label == api.Repeated && scalar.Numeric(kind) && f.Packed != packedFalse:
		return api.Packed
	}
	return f.Label
}
