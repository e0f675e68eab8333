package samples

import (
	"math"

	"cartouche/api"
)

// Near tells a number near an edge, or near that one.
func (m *Maker) Near(n int) int {
	return Pick(m, n, n-1, n+1, n+2, 0, 1, 2, 3, -1, api.Message, api.Message+1, api.MaxNumber, api.MaxNumber+1, high, high+1, math.MinInt, math.MaxInt)
}

// Word tells a name like that one, or another one, or something that is none.
func (m *Maker) Word(s string) string {
	return Pick(m, s, s+"x", s+".x", s+".", "."+s, "", "Z", "f1", "o1", "A3_0", "A3_0.A2_0", "_1", "1", s+"\u00e9", s+" ")
}

// BentTable tells what Rich tells, with a few changes by chance, so that it may not be good.
func (m *Maker) BentTable() api.Table {
	t := m.Rich()
	for range m.Below(3) {
		m.bendType(t, &t.Types[m.Below(len(t.Types))])
	}
	if m.Below(8) == 0 {
		i, j := m.Below(len(t.Types)), m.Below(len(t.Types))
		t.Types[i], t.Types[j] = t.Types[j], t.Types[i]
	}
	return t
}

// bendType changes one thing of a type.
func (m *Maker) bendType(t api.Table, x *api.Type) {
	switch m.Below(11) {
	case 0:
		x.Name = Pick(m, m.Word(x.Name), t.Types[m.Below(len(t.Types))].Name)
	case 1:
		x.Enum = !x.Enum
	case 2:
		x.Oneofs = append(x.Oneofs, m.Word("o"))
	case 3:
		x.Symbols = append(x.Symbols, api.Symbol{Name: m.Word("S"), Number: m.Near(5)})
	case 4:
		x.Reserved = append(x.Reserved, api.Range{Low: m.Near(20), High: m.Near(20)})
	case 5:
		m.bendNames(x)
	case 6:
		m.bendRanges(x)
	default:
		m.bendMember(x)
	}
}

// bendNames gives a member the name of another one.
func (m *Maker) bendNames(x *api.Type) {
	if len(x.Fields) == 0 {
		return
	}
	f, o := &x.Fields[m.Below(len(x.Fields))], x.Fields[m.Below(len(x.Fields))]
	f.Name = o.Name
	if len(x.Oneofs) > 0 && m.Below(2) == 0 {
		f.Name = Pick(m, x.Oneofs...)
	}
}

// bendRanges turns two round, or has one reach to another one.
func (m *Maker) bendRanges(x *api.Type) {
	if len(x.Reserved) < 2 {
		return
	}
	i := 1 + m.Below(len(x.Reserved)-1)
	if m.Below(2) == 0 {
		x.Reserved[i-1], x.Reserved[i] = x.Reserved[i], x.Reserved[i-1]
		return
	}
	x.Reserved[i-1].High = x.Reserved[i].Low - m.Below(2)
}

func (m *Maker) bendMember(x *api.Type) {
	switch sort := m.Below(8); {
	case sort == 0 && len(x.Symbols) > 0:
		s := &x.Symbols[m.Below(len(x.Symbols))]
		s.Name, s.Number = Pick(m, s.Name, m.Word(s.Name)), Pick(m, s.Number, m.Near(s.Number))
	case sort == 1 && len(x.Reserved) > 0:
		r := &x.Reserved[m.Below(len(x.Reserved))]
		r.Low, r.High = Pick(m, r.Low, m.Near(r.Low)), Pick(m, r.High, m.Near(r.High))
	case sort == 2 && len(x.Oneofs) > 0:
		x.Oneofs = x.Oneofs[1:]
	case len(x.Fields) > 0:
		f := &x.Fields[m.Below(len(x.Fields))]
		n := Pick(m, &f.Number, &f.Kind, &f.Ref, &f.Label, &f.Oneof, &f.Key)
		*n = m.Near(*n)
		if m.Below(6) == 0 {
			f.Name = m.Word(f.Name)
		}
	}
}

// WildTable tells a table in which anything may stand anywhere.
func (m *Maker) WildTable() api.Table {
	var t api.Table
	near := func() int { return m.Near(m.Below(20)) }
	for range m.Below(4) {
		x := api.Type{Name: m.Word("A"), Enum: m.Below(2) == 0}
		for range m.Below(3) {
			x.Fields = append(x.Fields, api.FieldType{Name: m.Word("f"), Number: near(), Kind: near(), Ref: near(), Label: near(), Oneof: near(), Key: near()})
			x.Oneofs = append(x.Oneofs, m.Word("o"))
			x.Symbols = append(x.Symbols, api.Symbol{Name: m.Word("S"), Number: near()})
			x.Reserved = append(x.Reserved, api.Range{Low: near(), High: near()})
		}
		t.Types = append(t.Types, x)
	}
	return t
}
