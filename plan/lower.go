package plan

import (
	"cmp"
	"slices"

	"cartouche/api"
	"cartouche/fields"
)

// blockOf tells the block of a good table's type.
func blockOf(x api.Type) Block {
	if x.Enum {
		return Block{Rows: rowsOf(x.Symbols)}
	}
	return Block{Dec: decOf(x), Enc: encOf(x)}
}

// rowsOf tells symbols by rising numbers: they are declared in any order.
func rowsOf(l []api.Symbol) []Line {
	var out []Line
	for _, s := range l {
		out = append(out, Line{Tag: s.Number})
	}
	slices.SortFunc(out, func(a, b Line) int { return cmp.Compare(a.Tag, b.Tag) })
	return out
}

func decOf(x api.Type) []Ins {
	var l layout
	l.lay(Tag)
	for _, f := range x.Fields {
		own, _ := fields.ValueWire(f)
		l.layCase(f, own, func() { l.layValue(x, f) })
		if fields.TakesRow(f, api.Chunk) {
			l.layCase(f, api.Chunk, func() { l.layRow(f) })
		}
	}
	l.lay(Keep)
	l.lay(Go, start)
	return l.steps
}

// layCase lays what is done with a field's entries of a wire kind, and what passes over it at other entries.
func (l *layout) layCase(f api.FieldType, kind int, layWhatFollows func()) {
	arrive := l.layAhead(Case, tagOf(f.Number, kind))
	layWhatFollows()
	l.lay(Go, start)
	arrive()
}

func (l *layout) layRow(f api.FieldType) {
	symbols := 0
	if f.Kind == api.Enum {
		symbols = f.Ref + 1
	}
	l.lay(Row, f.Number, f.Kind, symbols)
}

func (l *layout) layValue(x api.Type, f api.FieldType) {
	switch {
	case f.Label == api.Map:
		l.lay(Pair, f.Number, f.Key, f.Kind, f.Ref)
	case f.Kind == api.Message:
		l.layClear(x, f)
		l.lay(Msg, f.Number, f.Ref, becomes(f.Label))
	default:
		l.lay(Read, f.Kind)
		if f.Kind == api.Enum {
			l.lay(Sym, f.Ref)
		}
		l.layClear(x, f)
		l.lay(putsIn(f.Label), f.Number)
	}
}

// layClear takes out all members of the oneof, if the field is one of them: itself, too.
func (l *layout) layClear(x api.Type, f api.FieldType) {
	if f.Label != api.Member {
		return
	}
	for _, o := range x.Fields {
		if o.Label == api.Member && o.Oneof == f.Oneof {
			l.lay(Clear, o.Number)
		}
	}
}

// becomes tells what becomes of a message by its field's label.
func becomes(label int) int {
	switch label {
	case api.Repeated:
		return behind
	case api.Member:
		return anew
	}
	return into
}

// putsIn tells the operation that puts in a value by its field's label.
func putsIn(label int) int {
	switch label {
	case api.Repeated, api.Packed:
		return Add
	}
	return Set
}

func encOf(x api.Type) []Ins {
	var l layout
	for _, f := range x.Fields {
		unless := 0
		if f.Label == api.Plain { // its default is not written
			unless = f.Kind
		}
		arrive := l.layAhead(Has, f.Number, 0, unless)
		l.layWritten(f)
		arrive()
	}
	l.lay(Rest)
	l.lay(End)
	return l.steps
}

func (l *layout) layWritten(f api.FieldType) {
	own, _ := fields.ValueWire(f)
	tag := tagOf(f.Number, own)
	switch f.Label {
	case api.Plain, api.Optional, api.Member:
		l.lay(Put, tag)
		if f.Kind == api.Message {
			l.lay(Sub, f.Ref)
		} else {
			l.lay(Val, f.Kind)
		}
	case api.Repeated:
		l.lay(Each, tag, f.Kind, f.Ref)
	case api.Packed:
		l.lay(Run, tagOf(f.Number, api.Chunk), f.Kind)
	case api.Map:
		l.lay(Pairs, tag, f.Key, f.Kind, f.Ref)
	}
}
