package fields

import (
	"slices"

	"cartouche/api"
	"cartouche/scalar"
)

// pair is a key and its value.
type pair struct{ key, val api.Val }

// Ordered tells a map's field with its keys in order; of those that are one the last one stays. All keys fit their kind, and each has a value.
func Ordered(f api.FieldType, own api.Field) api.Field {
	var l []pair
	for i, k := range own.Keys {
		l = append(l, pair{k, own.Vals[i]})
	}
	byKey := func(a, b pair) int {
		order, _ := scalar.Compare(f.Key, a.key, b.key)
		return order
	}
	slices.SortStableFunc(l, byKey) // the last one of those that are one must stay the last
	out := api.Field{Number: own.Number}
	for i, p := range l {
		if i+1 == len(l) || byKey(p, l[i+1]) != 0 {
			out.Keys, out.Vals = append(out.Keys, p.key), append(out.Vals, p.val)
		}
	}
	return out
}
