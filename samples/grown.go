package samples

import (
	"cmp"
	"slices"
	"strconv"
	"strings"

	"cartouche/api"
)

// Grown tells a good table that is the other one plus fresh numbers, messages and enums, if by chance there are any; at most room types more.
func (m *Maker) Grown(t api.Table, room int) api.Table {
	t = CopyTable(t)
	count := len(t.Types)
	for range m.Below(room + 1) {
		t.Types = append(t.Types, m.grownType(t))
	}
	for i := range t.Types {
		if i >= count || m.Below(3) == 0 {
			m.growFields(t, &t.Types[i])
		}
	}
	return t
}

// grownType tells a type without fields, by itself or within another one. No two that one table got have one name: it had another count of types each time.
func (m *Maker) grownType(t api.Table) api.Type {
	x := Message("Grown" + strconv.Itoa(len(t.Types)))
	if len(t.Types) > 0 {
		if around := Pick(m, t.Types...); !around.Enum && strings.Count(around.Name, ".") < 3 && m.Below(2) == 0 {
			x.Name = around.Name + "." + x.Name
		}
	}
	if x.Enum = m.Below(3) == 0; x.Enum {
		x.Symbols = m.symbols()
	}
	return x
}

func (m *Maker) growFields(t api.Table, x *api.Type) {
	for range m.Below(4) {
		if number := m.FieldNumber(); !x.Enum && isFree(*x, number) {
			m.addField(t, x, number)
		}
	}
	slices.SortFunc(x.Fields, func(a, b api.FieldType) int { return cmp.Compare(a.Number, b.Number) })
}

// isFree tells whether a type has neither a field nor a range of that number.
func isFree(x api.Type, number int) bool {
	return !slices.ContainsFunc(x.Fields, func(f api.FieldType) bool { return f.Number == number }) &&
		!slices.ContainsFunc(x.Reserved, func(r api.Range) bool { return r.Low <= number && number <= r.High })
}

// Reordered tells a good table with its types in another order: one within another one stays behind it.
func (m *Maker) Reordered(t api.Table) api.Table {
	var out api.Table
	to := make([]int, len(t.Types))
	left := make([]int, len(t.Types))
	for i := range left {
		left[i] = i
	}
	for len(left) > 0 {
		at := m.Below(len(left))
		for isWithinOne(t, left, left[at]) {
			at = m.Below(len(left))
		}
		to[left[at]] = len(out.Types)
		out.Types = append(out.Types, t.Types[left[at]])
		left = slices.Delete(left, at, at+1)
	}
	out = CopyTable(out)
	eachRef(out, func(f *api.FieldType) { f.Ref = to[f.Ref] })
	return out
}

// isWithinOne tells whether a type stands within one of those that are left.
func isWithinOne(t api.Table, left []int, index int) bool {
	return slices.ContainsFunc(left, func(i int) bool { return strings.HasPrefix(t.Types[index].Name, t.Types[i].Name+".") })
}

// eachRef does something with each field that names a type.
func eachRef(t api.Table, do func(f *api.FieldType)) {
	for _, x := range t.Types {
		for i := range x.Fields {
			if f := &x.Fields[i]; f.Kind >= api.Enum {
				do(f)
			}
		}
	}
}
