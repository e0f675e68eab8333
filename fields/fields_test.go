package fields_test

import (
	"fmt"
	"math"
	"slices"
	"testing"

	"cartouche/api"
	"cartouche/fields"
)

// TestFind asks lists of each length for each number in them, and for those between.
func TestFind(t *testing.T) {
	for count := range 140 {
		var l []api.FieldType
		for i := range count {
			l = append(l, api.FieldType{Name: "f", Number: 3*i + 2})
		}
		for _, n := range append(span(-1, 3*count+4), math.MinInt, math.MaxInt, api.MaxNumber) {
			i := slices.IndexFunc(l, func(f api.FieldType) bool { return f.Number == n })
			var want api.FieldType
			if i >= 0 {
				want = l[i]
			}
			if f, ok := fields.Find(l, n); ok != (i >= 0) || f != want {
				t.Errorf("Find of %d among %d: %+v, %v", n, count, f, ok)
			}
			want = api.FieldType{}
			for _, f := range l {
				if f.Number <= n {
					want = f
				}
			}
			if f, ok := fields.LastUpTo(l, n); ok != (want.Number > 0) || f != want {
				t.Errorf("LastUpTo of %d among %d: %+v, %v", n, count, f, ok)
			}
		}
	}
}

func span(from, to int) []int {
	var out []int
	for n := from; n < to; n++ {
		out = append(out, n)
	}
	return out
}

func TestNamed(t *testing.T) {
	l := []api.FieldType{{Name: "a", Number: 1}, {Name: "A", Number: 2}, {Name: "ab", Number: 3}, {Name: "b", Number: 4, Kind: api.Bool}}
	for _, want := range l {
		if f, ok := fields.Named(l, want.Name); !ok || f != want {
			t.Errorf("Named of %q: %+v, %v", want.Name, f, ok)
		}
	}
	for _, name := range []string{"", "B", "aa", "abb", "a "} {
		if f, ok := fields.Named(l, name); ok || f != (api.FieldType{}) {
			t.Errorf("Named of %q: %+v, %v", name, f, ok)
		}
	}
	if _, ok := fields.Named(nil, ""); ok {
		t.Error("one of none is named")
	}
}

// TestTakes has each kind, label and wire kind, and those that are none.
func TestTakes(t *testing.T) {
	own := map[int]int{api.Fixed32: api.Fix32, api.Sfixed32: api.Fix32, api.Float: api.Fix32, api.Fixed64: api.Fix64, api.Sfixed64: api.Fix64, api.Double: api.Fix64, api.String: api.Chunk, api.Bytes: api.Chunk, api.Message: api.Chunk}
	for kind := api.Bool; kind <= api.Message; kind++ {
		for label := api.Plain; label <= api.Map; label++ {
			for w := -1; w < 8; w++ {
				f := api.FieldType{Kind: kind, Label: label}
				value := w == own[kind]
				if label == api.Map {
					value = w == api.Chunk
				}
				row := w == api.Chunk && own[kind] != api.Chunk && (label == api.Repeated || label == api.Packed)
				if fields.TakesValue(f, w) != value || fields.TakesRow(f, w) != row {
					t.Errorf("%+v, wire kind %d: value %v, row %v", f, w, fields.TakesValue(f, w), fields.TakesRow(f, w))
				}
				if own, e := fields.ValueWire(f); e != api.OK || (own == w) != value {
					t.Errorf("%+v: wire kind %d, error %d", f, own, e)
				}
			}
		}
	}
	for _, kind := range []int{0, -1, api.Message + 1, math.MinInt, math.MaxInt} {
		f := api.FieldType{Kind: kind, Label: api.Repeated}
		if fields.TakesValue(f, 0) || fields.TakesRow(f, api.Chunk) {
			t.Errorf("a kind that is none, %d, takes something", kind)
		}
		if own, e := fields.ValueWire(f); e != api.ErrArg || own != 0 {
			t.Errorf("a kind that is none, %d: wire kind %d, error %d", kind, own, e)
		}
	}
}

func TestHasSymbol(t *testing.T) {
	x := api.Type{Name: "E", Enum: true, Symbols: []api.Symbol{{Name: "A"}, {Name: "C", Number: 1<<31 - 1}, {Name: "B", Number: 5}}}
	for _, n := range []uint64{0, 5, 1<<31 - 1} {
		if !fields.HasSymbol(x, n) {
			t.Errorf("%d is none", n)
		}
	}
	for _, n := range []uint64{1, 4, 6, 1<<31 - 2, 1 << 31, 1 << 32, 1<<32 + 5, math.MaxUint64} {
		if fields.HasSymbol(x, n) {
			t.Errorf("%d is one", n)
		}
	}
	if fields.HasSymbol(api.Type{}, 0) {
		t.Error("0 is one of none")
	}
}

func TestSymbol(t *testing.T) {
	x := api.Type{Name: "E", Enum: true, Symbols: []api.Symbol{{Name: "A"}, {Name: "C", Number: 7}, {Name: "B", Number: 5}}}
	for _, want := range x.Symbols {
		if s, ok := fields.Symbol(x, func(s api.Symbol) bool { return s.Name == want.Name }); !ok || s != want {
			t.Errorf("Symbol %q: %+v, %v", want.Name, s, ok)
		}
	}
	if s, ok := fields.Symbol(x, func(s api.Symbol) bool { return s.Number > 0 }); !ok || s.Name != "C" {
		t.Errorf("the first one above 0: %+v, %v", s, ok)
	}
	if s, ok := fields.Symbol(x, func(s api.Symbol) bool { return s.Name == "D" }); ok || s != (api.Symbol{}) {
		t.Errorf("one that is none: %+v, %v", s, ok)
	}
}

// TestOrdered has keys in and out of order, and several that are one.
func TestOrdered(t *testing.T) {
	minus := ^uint64(0)
	for _, row := range []struct {
		key        int
		keys, want []uint64
		last       []int // the place at which the one that stays stood
	}{
		{api.Uint32, nil, nil, nil},
		{api.Uint32, []uint64{3}, []uint64{3}, []int{0}},
		{api.Uint32, []uint64{1, 2, 3}, []uint64{1, 2, 3}, []int{0, 1, 2}},
		{api.Uint32, []uint64{3, 1, 2}, []uint64{1, 2, 3}, []int{1, 2, 0}},
		{api.Uint32, []uint64{3, 1, 3, 1, 3}, []uint64{1, 3}, []int{3, 4}},
		{api.Uint32, []uint64{7, 7, 7}, []uint64{7}, []int{2}},
		{api.Int64, []uint64{1, 0, minus, minus - 1}, []uint64{minus - 1, minus, 0, 1}, []int{3, 2, 1, 0}},
		{api.Uint64, []uint64{minus, 0, minus - 1}, []uint64{0, minus - 1, minus}, []int{1, 2, 0}},
	} {
		own, want := api.Field{Number: 9}, api.Field{Number: 9}
		for i, n := range row.keys {
			own.Keys, own.Vals = append(own.Keys, api.Val{N: n}), append(own.Vals, api.Val{N: uint64(i)})
		}
		for i, n := range row.want {
			want.Keys, want.Vals = append(want.Keys, api.Val{N: n}), append(want.Vals, api.Val{N: uint64(row.last[i])})
		}
		before := fmt.Sprint(own)
		if got := fields.Ordered(api.FieldType{Label: api.Map, Key: row.key}, own); fmt.Sprint(got) != fmt.Sprint(want) || fmt.Sprint(own) != before {
			t.Errorf("Ordered of %v: %v, want %v", before, got, want)
		}
	}
	texts := api.Field{Keys: []api.Val{{B: []byte("b")}, {B: []byte("ab")}, {}, {B: []byte("a")}}, Vals: make([]api.Val, 4)}
	got := fields.Ordered(api.FieldType{Label: api.Map, Key: api.String}, texts)
	for i, want := range []string{"", "a", "ab", "b"} {
		if string(got.Keys[i].B) != want {
			t.Errorf("key %d: %q, want %q", i, got.Keys[i].B, want)
		}
	}
}

func TestIsDefault(t *testing.T) {
	for _, v := range []api.Val{{}, {B: []byte{}}, {M: []api.Msg{}}} {
		if !fields.IsDefault(v) {
			t.Errorf("%v is none", v)
		}
	}
	for _, v := range []api.Val{{N: 1}, {N: 1 << 63}, {B: []byte{0}}, {N: 1, B: []byte("a")}} {
		if fields.IsDefault(v) {
			t.Errorf("%v is one", v)
		}
	}
}
