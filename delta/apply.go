package delta

import (
	"slices"

	"cartouche/api"
	"cartouche/fields"
)

// apply does a step to a message. Whatever was done ahead, its fields are of rising numbers, and each is typed alone: what is put in is asked for that.
func apply(t api.Table, index int, m *api.Msg, s Step) api.Errno {
	place, e := typeAt(t.Types, index, s)
	if e != api.OK {
		return e
	}
	m, ok := at(m, s.Path)
	if !ok {
		return api.ErrNone
	}
	s = copied(s)
	switch s.Do {
	case Put:
		if e := typeFault(t, place, alone(s.F)); e != api.OK {
			return e
		}
		*fields.Present(m, s.F.Number) = s.F
	case Take:
		i, ok := fields.Place(*m, s.F.Number)
		if !ok {
			return api.ErrNone
		}
		m.Fields = slices.Delete(m.Fields, i, i+1)
	case Keep:
		m.Unknown = s.E
	}
	return api.OK
}
