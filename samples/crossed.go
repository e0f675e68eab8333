package samples

import (
	"cartouche/api"
)

// Crossed is a table in which messages hold each other by each label, and many paths go on: its types 0 and 1 are messages, type 2 is an enum.
func Crossed() api.Table {
	of := func(name string, number, label, ref int) api.FieldType {
		return api.FieldType{Name: name, Number: number, Kind: api.Message, Label: label, Ref: ref}
	}
	a := Message("A", api.FieldType{Name: "x", Number: 1, Kind: api.Sint32}, of("a", 2, api.Optional, 0), of("ab", 3, api.Optional, 1), of("l", 4, api.Repeated, 0), of("o", 5, api.Member, 1), of("p", 6, api.Member, 0), api.FieldType{Name: "e", Number: 7, Kind: api.Enum, Ref: 2, Label: api.Packed})
	a.Oneofs = []string{"of"}
	b := Message("B", of("b", 1, api.Optional, 1), of("x", 2, api.Optional, 0), api.FieldType{Name: "l", Number: 9, Kind: api.String, Label: api.Map, Key: api.Bool}, of("m", 12, api.Map, 0))
	b.Fields[3].Key = api.Int32
	return Table(a, b, Symbols())
}

// Sample tells a table in which messages may stand within one another, and a message's index in it.
func (m *Maker) Sample() (api.Table, int) {
	switch m.Below(4) {
	case 0:
		return m.Table(), 0
	case 1:
		return Wide(), 1 + m.Below(2)
	case 2:
		return Small(), 1
	}
	return Crossed(), m.Below(2)
}
