package samples

import (
	"slices"
	"strconv"
	"strings"

	"cartouche/api"
)

// Evolved tells a good table with a few changes by chance, such as descriptions go through: what is told is mostly good.
func (m *Maker) Evolved(t api.Table) api.Table {
	t = CopyTable(t)
	for range 1 + m.Below(3) {
		if len(t.Types) == 0 || m.Below(8) == 0 {
			t = m.Grown(t, 2)
			continue
		}
		m.evolve(&t, m.Below(len(t.Types)))
	}
	return t
}

// evolve changes one type.
func (m *Maker) evolve(t *api.Table, index int) {
	x := &t.Types[index]
	switch sort := m.Below(12); {
	case sort == 0:
		m.dropType(t, index)
	case sort == 1:
		m.turnType(*t, index)
	case x.Enum:
		m.evolveSymbols(x)
	case sort < 5:
		m.evolveRanges(x)
	case len(x.Fields) > 0:
		m.evolveField(*t, x, m.Below(len(x.Fields)))
	}
}

// dropType takes out a type, if none stands within it; fields of it become numbers.
func (m *Maker) dropType(t *api.Table, index int) {
	around := t.Types[index].Name + "."
	if slices.ContainsFunc(t.Types, func(x api.Type) bool { return strings.HasPrefix(x.Name, around) }) {
		return
	}
	t.Types = slices.Delete(t.Types, index, index+1)
	eachRef(*t, func(f *api.FieldType) {
		switch {
		case f.Ref == index:
			f.Kind, f.Ref = Pick(m, api.Int32, api.Int64, api.Sint32), 0
		case f.Ref > index:
			f.Ref--
		}
	})
}

// turnType makes a message an enum, or an enum a message; so it does with fields of it.
func (m *Maker) turnType(t api.Table, index int) {
	x := api.Type{Name: t.Types[index].Name, Enum: !t.Types[index].Enum}
	if x.Enum {
		x.Symbols = m.symbols()
	}
	t.Types[index] = x
	eachRef(t, func(f *api.FieldType) {
		if f.Ref == index {
			m.suit(t, f)
		}
	})
}

// suit gives a field the kind of the type that it names, and a label that suits its kind.
func (m *Maker) suit(t api.Table, f *api.FieldType) {
	if f.Kind >= api.Enum {
		if f.Kind = api.Message; t.Types[f.Ref].Enum {
			f.Kind = api.Enum
		}
	} else {
		f.Ref = 0
	}
	if !CanBe(f.Kind, f.Label) {
		f.Label++ // Plain becomes Optional
		if f.Label > api.Packed {
			f.Label = api.Repeated
		}
	}
}

// evolveSymbols leaves the first one its number: it is 0.
func (m *Maker) evolveSymbols(x *api.Type) {
	at := m.Below(len(x.Symbols))
	switch s := &x.Symbols[at]; m.Below(4) {
	case 0:
		s.Name = "Other" + strconv.Itoa(s.Number)
	case 1:
		x.Symbols = append(x.Symbols, api.Symbol{Name: "New" + strconv.Itoa(len(x.Symbols)), Number: 20 + m.Below(20)})
	case 2:
		if at > 0 {
			x.Symbols = slices.Delete(x.Symbols, at, at+1)
		}
	default:
		last := &x.Symbols[len(x.Symbols)-1]
		if at > 0 {
			*s, *last = *last, *s
		}
	}
}

// evolveRanges changes which numbers are reserved, or how the same ones are told.
func (m *Maker) evolveRanges(x *api.Type) {
	number := 1 + m.Below(30)
	if len(x.Reserved) == 0 || m.Below(3) == 0 {
		if isFree(*x, number) {
			x.Reserved = append(x.Reserved, api.Range{Low: number, High: number})
			slices.SortFunc(x.Reserved, func(a, b api.Range) int { return a.Low - b.Low })
		}
		return
	}
	at := m.Below(len(x.Reserved))
	r := &x.Reserved[at]
	switch m.Below(4) {
	case 0:
		x.Reserved = slices.Delete(x.Reserved, at, at+1)
	case 1:
		if isFree(*x, r.High+1) {
			r.High++
		}
	case 2:
		if isFree(*x, r.Low-1) {
			r.Low--
		}
	default:
		if high := r.High; r.Low < high {
			r.High = r.Low
			x.Reserved = slices.Insert(x.Reserved, at+1, api.Range{Low: r.Low + 1 + m.Below(2)*m.Below(high-r.Low), High: high})
		}
	}
}

// evolveField changes a field; its label and its type hang on each other.
func (m *Maker) evolveField(t api.Table, x *api.Type, at int) {
	f := &x.Fields[at]
	switch m.Below(7) {
	case 0:
		f.Name = "other" + strconv.Itoa(f.Number)
	case 1:
		if f.Label != api.Member {
			x.Fields = slices.Delete(x.Fields, at, at+1)
		}
	case 2:
		f.Kind, f.Ref = 1+m.Below(api.Message), m.Below(len(t.Types))
		m.suit(t, f)
	case 3:
		m.widen(f)
	case 4:
		m.relabel(f)
		m.suit(t, f)
	case 5:
		if f.Label == api.Map {
			f.Key = Pick(m, KeyKinds()...)
		}
	default:
		if len(x.Oneofs) > 0 {
			m.evolveOneofs(x, f)
		}
	}
}

// widen gives a field a kind that is wider than its own, if there is one.
func (m *Maker) widen(f *api.FieldType) {
	switch f.Kind {
	case api.Int32, api.Uint32, api.Sint32, api.String:
		f.Kind++
	case api.Bool:
		f.Kind = Pick(m, api.Int32, api.Int64, api.Uint32, api.Uint64)
	case api.Enum:
		f.Kind, f.Ref = Pick(m, api.Int32, api.Int64), 0
	}
}

// relabel gives a field that is no Member another label.
func (m *Maker) relabel(f *api.FieldType) {
	if f.Label == api.Member {
		return
	}
	f.Label, f.Key = Pick(m, api.Plain, api.Optional, api.Repeated, api.Packed, api.Map), 0
	if f.Label == api.Map {
		f.Key = Pick(m, KeyKinds()...)
	}
}

// evolveOneofs gives a oneof another name, or makes a field a Member.
func (m *Maker) evolveOneofs(x *api.Type, f *api.FieldType) {
	at := m.Below(len(x.Oneofs))
	if m.Below(2) == 0 {
		x.Oneofs[at] += "_"
		return
	}
	f.Label, f.Oneof, f.Key = api.Member, at, 0
}
