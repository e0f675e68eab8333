package merge

import (
	"cmp"
	"slices"

	"cartouche/api"
	"cartouche/fields"
	"cartouche/scalar"
)

// types are those of a good table.
type types []api.Type

// merged tells the merge of two typed messages. It shares memory with both.
func (l types) merged(x api.Type, a, b api.Msg) api.Msg {
	byNumber := func(a, b api.Field) int { return cmp.Compare(a.Number, b.Number) }
	both := func(a, b api.Field) api.Field {
		f, _ := fields.Find(x.Fields, a.Number)
		return l.both(f, a, b)
	}
	return api.Msg{
		Fields:  union(withoutRivals(x, a.Fields, b.Fields), b.Fields, byNumber, both),
		Unknown: slices.Concat(a.Unknown, b.Unknown),
	}
}

// withoutRivals tells fields without the members of those oneofs of which others have one.
func withoutRivals(x api.Type, own, others []api.Field) []api.Field {
	var taken []int
	for _, o := range others {
		if f, _ := fields.Find(x.Fields, o.Number); f.Label == api.Member {
			taken = append(taken, f.Oneof)
		}
	}
	var out []api.Field
	for _, o := range own {
		f, _ := fields.Find(x.Fields, o.Number)
		if f.Label != api.Member || !slices.Contains(taken, f.Oneof) {
			out = append(out, o)
		}
	}
	return out
}

// both tells what becomes of a field that both messages have.
func (l types) both(f api.FieldType, a, b api.Field) api.Field {
	switch {
	case fields.IsWay(f):
		return around(f.Number, l.merged(l[f.Ref], within(a), within(b)))
	case f.Label == api.Repeated || f.Label == api.Packed:
		return api.Field{Number: f.Number, Vals: slices.Concat(a.Vals, b.Vals)}
	case f.Label == api.Map:
		return bothMaps(f, a, b)
	}
	return b
}

// pair is a key and its value.
type pair struct{ key, val api.Val }

func bothMaps(f api.FieldType, a, b api.Field) api.Field {
	byKey := func(a, b pair) int {
		order, _ := scalar.Compare(f.Key, a.key, b.key)
		return order
	}
	out := api.Field{Number: f.Number}
	for _, p := range union(pairsOf(a), pairsOf(b), byKey, func(_, b pair) pair { return b }) {
		out.Keys, out.Vals = append(out.Keys, p.key), append(out.Vals, p.val)
	}
	return out
}

func pairsOf(own api.Field) []pair {
	var l []pair
	for i, k := range own.Keys {
		l = append(l, pair{k, own.Vals[i]})
	}
	return l
}

// union tells, in order, what stands in two lists that are in order; what stands in both, once.
func union[T any](a, b []T, order func(a, b T) int, both func(a, b T) T) []T {
	var out []T
	for len(a) > 0 && len(b) > 0 {
		switch o := order(a[0], b[0]); {
		case o < 0:
			out, a = append(out, a[0]), a[1:]
		case o > 0:
			out, b = append(out, b[0]), b[1:]
		default:
			out, a, b = append(out, both(a[0], b[0])), a[1:], b[1:]
		}
	}
	return slices.Concat(out, a, b)
}
