package fields

import (
	"cmp"
	"slices"

	"cartouche/api"
)

// Present tells, of a message with fields by rising numbers, the one with that number: if it was not there, it is now, at its place. It holds till the message has another one.
func Present(m *api.Msg, number int) *api.Field {
	i, ok := Place(*m, number)
	if !ok {
		m.Fields = slices.Insert(m.Fields, i, api.Field{Number: number})
	}
	return &m.Fields[i]
}

// Place tells where a field with that number stands among such fields, or where it would stand.
func Place(m api.Msg, number int) (int, bool) {
	return slices.BinarySearchFunc(m.Fields, number, func(f api.Field, n int) int { return cmp.Compare(f.Number, n) })
}
