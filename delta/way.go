package delta

import (
	"cartouche/api"
	"cartouche/fields"
)

// typeAt tells the type of the message to which a step leads, by the types alone.
func typeAt(types []api.Type, index int, s Step) (int, api.Errno) {
	switch s.Do {
	case Put, Take, Keep:
	default:
		return 0, api.ErrArg
	}
	for _, number := range s.Path {
		f, ok := fields.Find(types[index].Fields, number)
		if !ok || !fields.IsWay(f) {
			return 0, api.ErrNone
		}
		index = f.Ref
	}
	return index, api.OK
}

// within tells the message in a typed field through which a path can go on.
func within(f *api.Field) *api.Msg { return &f.Vals[0].M[0] }

// at tells the message to which a path leads, if all that it names is there.
func at(m *api.Msg, path []int) (*api.Msg, bool) {
	for _, number := range path {
		i, ok := fields.Place(*m, number)
		if !ok {
			return nil, false
		}
		m = within(&m.Fields[i])
	}
	return m, true
}
