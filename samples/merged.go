package samples

import (
	"slices"

	"cartouche/api"
	"cartouche/scalar"
)

// Merged reads chapter 10's words of the merge, field by field of the type: a second time beside merge.Merge.
func Merged(t api.Table, index int, a, b api.Msg) api.Msg {
	x := t.Types[index]
	var out api.Msg
	for _, f := range x.Fields {
		switch was, now := fieldOf(a, f.Number), fieldOf(b, f.Number); {
		case len(was) > 0 && len(now) > 0:
			out.Fields = append(out.Fields, mergedField(t, f, was[0], now[0]))
		case len(now) > 0:
			out.Fields = append(out.Fields, now...)
		case f.Label != api.Member || !hasMember(x, f.Oneof, b):
			out.Fields = append(out.Fields, was...)
		}
	}
	out.Unknown = append(append(out.Unknown, a.Unknown...), b.Unknown...)
	return Copy(out)
}

// fieldOf tells the field of that number, or none.
func fieldOf(m api.Msg, number int) []api.Field {
	for _, f := range m.Fields {
		if f.Number == number {
			return []api.Field{f}
		}
	}
	return nil
}

func hasMember(x api.Type, oneof int, m api.Msg) bool {
	return slices.ContainsFunc(x.Fields, func(f api.FieldType) bool {
		return f.Label == api.Member && f.Oneof == oneof && len(fieldOf(m, f.Number)) > 0
	})
}

func mergedField(t api.Table, f api.FieldType, a, b api.Field) api.Field {
	switch f.Label {
	case api.Repeated, api.Packed:
		return Field(f.Number, append(fresh(a.Vals), b.Vals...)...)
	case api.Map:
		return mergedMap(f, a, b)
	case api.Optional:
		if f.Kind == api.Message {
			return Field(f.Number, In(Merged(t, f.Ref, a.Vals[0].M[0], b.Vals[0].M[0])))
		}
	}
	return b
}

// mergedMap puts each key of b's into a's.
func mergedMap(f api.FieldType, a, b api.Field) api.Field {
	out := api.Field{Number: f.Number, Keys: fresh(a.Keys), Vals: fresh(a.Vals)}
	for i, k := range b.Keys {
		at, isThere := slices.BinarySearchFunc(out.Keys, k, func(a, b api.Val) int {
			order, _ := scalar.Compare(f.Key, a, b)
			return order
		})
		if !isThere {
			out.Keys, out.Vals = slices.Insert(out.Keys, at, k), slices.Insert(out.Vals, at, api.Val{})
		}
		out.Vals[at] = b.Vals[i]
	}
	return out
}
