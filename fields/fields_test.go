package fields_test

import (
	"math"
	"slices"
	"testing"

	"cartouche/api"
	"cartouche/fields"
)

// TestFind asks lists of each length for each number in them, and for those between.
func TestFind(t *testing.T) {
	for count := range 140 {
		var l []api.FieldType
		for i := range count {
			l = append(l, api.FieldType{Name: "f", Number: 3*i + 2})
		}
		for _, n := range append(span(-1, 3*count+4), math.MinInt, math.MaxInt, api.MaxNumber) {
			i := slices.IndexFunc(l, func(f api.FieldType) bool { return f.Number == n })
			var want api.FieldType
			if i >= 0 {
				want = l[i]
			}
			if f, ok := fields.Find(l, n); ok != (i >= 0) || f != want {
				t.Errorf("Find of %d among %d: %+v, %v", n, count, f, ok)
			}
			want = api.FieldType{}
			for _, f := range l {
				if f.Number <= n {
					want = f
				}
			}
			if f, ok := fields.LastUpTo(l, n); ok != (want.Number > 0) || f != want {
				t.Errorf("LastUpTo of %d among %d: %+v, %v", n, count, f, ok)
			}
		}
	}
}

func span(from, to int) []int {
	var out []int
	for n := from; n < to; n++ {
		out = append(out, n)
	}
	return out
}

// TestTakes has each kind, label and wire kind, and those that are none.
func TestTakes(t *testing.T) {
	own := map[int]int{api.Fixed32: api.Fix32, api.Sfixed32: api.Fix32, api.Float: api.Fix32, api.Fixed64: api.Fix64, api.Sfixed64: api.Fix64, api.Double: api.Fix64, api.String: api.Chunk, api.Bytes: api.Chunk, api.Message: api.Chunk}
	for kind := api.Bool; kind <= api.Message; kind++ {
		for label := api.Plain; label <= api.Map; label++ {
			for w := -1; w < 8; w++ {
				f := api.FieldType{Kind: kind, Label: label}
				value := w == own[kind]
				if label == api.Map {
					value = w == api.Chunk
				}
				row := w == api.Chunk && own[kind] != api.Chunk && (label == api.Repeated || label == api.Packed)
				if fields.TakesValue(f, w) != value || fields.TakesRow(f, w) != row {
					t.Errorf("%+v, wire kind %d: value %v, row %v", f, w, fields.TakesValue(f, w), fields.TakesRow(f, w))
				}
			}
		}
	}
	for _, kind := range []int{0, -1, api.Message + 1, math.MinInt, math.MaxInt} {
		f := api.FieldType{Kind: kind, Label: api.Repeated}
		if fields.TakesValue(f, 0) || fields.TakesRow(f, api.Chunk) {
			t.Errorf("a kind that is none, %d, takes something", kind)
		}
	}
}

func TestHasSymbol(t *testing.T) {
	x := api.Type{Name: "E", Enum: true, Symbols: []api.Symbol{{Name: "A"}, {Name: "C", Number: 1<<31 - 1}, {Name: "B", Number: 5}}}
	for _, n := range []uint64{0, 5, 1<<31 - 1} {
		if !fields.HasSymbol(x, n) {
			t.Errorf("%d is none", n)
		}
	}
	for _, n := range []uint64{1, 4, 6, 1<<31 - 2, 1 << 31, 1 << 32, 1<<32 + 5, math.MaxUint64} {
		if fields.HasSymbol(x, n) {
			t.Errorf("%d is one", n)
		}
	}
	if fields.HasSymbol(api.Type{}, 0) {
		t.Error("0 is one of none")
	}
}

func TestIsDefault(t *testing.T) {
	for _, v := range []api.Val{{}, {B: []byte{}}, {M: []api.Msg{}}} {
		if !fields.IsDefault(v) {
			t.Errorf("%v is none", v)
		}
	}
	for _, v := range []api.Val{{N: 1}, {N: 1 << 63}, {B: []byte{0}}, {N: 1, B: []byte("a")}} {
		if fields.IsDefault(v) {
			t.Errorf("%v is one", v)
		}
	}
}
