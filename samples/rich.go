package samples

import (
	"slices"
	"strconv"

	"cartouche/api"
)

// Rich tells a good table of all sorts: messages and enums within messages, oneofs, maps, packed fields, ranges. Names of one depth are none of another one, so that full names stand for themselves wherever they are written.
func (m *Maker) Rich() api.Table {
	t := Table(m.declared("", 3)...)
	for i := range t.Types {
		if t.Types[i].Enum {
			t.Types[i].Symbols = m.symbols()
		} else {
			m.members(t, &t.Types[i])
		}
	}
	return t
}

// declared lays types without members: each ahead of those within it.
func (m *Maker) declared(around string, room int) []api.Type {
	var out []api.Type
	for i := range 1 + m.Below(3) {
		x := Message(around + Pick(m, "A", "b", "_", "int32x") + strconv.Itoa(room) + "_" + strconv.Itoa(i))
		x.Enum = m.Below(3) == 0
		out = append(out, x)
		if !x.Enum && room > 1 && m.Below(2) == 0 {
			out = append(out, m.declared(x.Name+".", room-1)...)
		}
	}
	return out
}

func (m *Maker) symbols() []api.Symbol {
	out := []api.Symbol{{Name: "Z"}}
	for i := range m.Below(4) {
		s := api.Symbol{Name: "S" + strconv.Itoa(i), Number: Pick(m, 10, high-4, 1000) + m.Below(2) + 2*i - 1}
		if !slices.ContainsFunc(out, func(o api.Symbol) bool { return o.Number == s.Number }) {
			out = append(out, s)
		}
	}
	return out
}

// members goes up the numbers: at each step stands a field, a range or nothing.
func (m *Maker) members(t api.Table, x *api.Type) {
	number := 0
	for range m.Below(9) {
		number += 1 + m.Below(3)
		if m.Below(4) > 0 {
			m.addField(t, x, number)
			continue
		}
		r := api.Range{Low: number, High: number + m.Below(3)}
		x.Reserved = append(x.Reserved, r)
		number = r.High
	}
}
