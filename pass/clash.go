package pass

import (
	"slices"

	"cartouche/api"
	"cartouche/fields"
)

// seeker seeks, in typed messages, entries that are not known and that another table declares.
type seeker struct {
	types    []api.Type
	declared [][]api.FieldType // for each type
}

// declaredFor tells, for each type of a table, which fields the other one declares for it: none, if it has no type of that name, or an enum.
func declaredFor(old, new api.Table) [][]api.FieldType {
	byName := make(map[string][]api.FieldType, len(new.Types))
	for _, x := range new.Types {
		byName[x.Name] = x.Fields
	}
	var out [][]api.FieldType
	for _, x := range old.Types {
		out = append(out, byName[x.Name])
	}
	return out
}

// isIn tells whether there is one in a message, or in one within it: also within one of which the other table declares nothing.
func (s seeker) isIn(index int, m api.Msg) bool {
	isDeclared := func(x api.Entry) bool {
		_, ok := fields.Find(s.declared[index], x.Number)
		return ok
	}
	isWithin := func(f api.Field) bool {
		own, _ := fields.Find(s.types[index].Fields, f.Number)
		return slices.ContainsFunc(f.Vals, func(v api.Val) bool {
			return slices.ContainsFunc(v.M, func(within api.Msg) bool { return s.isIn(own.Ref, within) })
		})
	}
	return slices.ContainsFunc(m.Unknown, isDeclared) || slices.ContainsFunc(m.Fields, isWithin)
}
