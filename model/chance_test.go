package model_test

import (
	"bytes"
	"math"
	"slices"
	"testing"
	"unicode/utf8"

	"cartouche/api"
	"cartouche/model"
	"cartouche/samples"
	"cartouche/table"
)

// isTyped reads the chapter's words of a typed message a second time.
func isTyped(t api.Table, index int, m api.Msg) bool {
	oneofs := map[int]int{}
	for i, f := range m.Fields {
		at := slices.IndexFunc(t.Types[index].Fields, func(x api.FieldType) bool { return x.Number == f.Number })
		if at < 0 || i > 0 && m.Fields[i-1].Number >= f.Number {
			return false
		}
		x := t.Types[index].Fields[at]
		isList := x.Label == api.Repeated || x.Label == api.Packed
		isMap := x.Label == api.Map
		if x.Label == api.Member {
			oneofs[x.Oneof]++
		}
		if !isMap && len(f.Keys) > 0 || isMap && len(f.Keys) != len(f.Vals) || !isMap && !isList && len(f.Vals) != 1 || oneofs[x.Oneof] > 1 {
			return false
		}
		for _, v := range f.Vals {
			if !isTypedValue(t, x.Kind, x.Ref, v) {
				return false
			}
		}
		for i, k := range f.Keys {
			if !isTypedValue(t, x.Key, 0, k) || i > 0 && !isBelow(x.Key, f.Keys[i-1], k) {
				return false
			}
		}
	}
	return !slices.ContainsFunc(m.Unknown, func(x api.Entry) bool {
		isBad := x.Number < 1 || x.Number > 536870911 || x.Kind != 2 && len(x.B) > 0
		switch x.Kind {
		case 0, 1:
			return isBad
		case 2:
			return isBad || x.N != 0
		case 5:
			return isBad || x.N > 4294967295
		}
		return true
	})
}

func isTypedValue(t api.Table, kind, ref int, v api.Val) bool {
	switch kind {
	case api.Message:
		return v.N == 0 && len(v.B) == 0 && len(v.M) == 1 && isTyped(t, ref, v.M[0])
	case api.String:
		return v.N == 0 && len(v.M) == 0 && utf8.Valid(v.B)
	case api.Bytes:
		return v.N == 0 && len(v.M) == 0
	}
	fits := true
	switch kind {
	case api.Bool:
		fits = v.N < 2
	case api.Int32, api.Sint32, api.Sfixed32:
		fits = int64(v.N) >= math.MinInt32 && int64(v.N) <= math.MaxInt32
	case api.Uint32, api.Fixed32, api.Float:
		fits = v.N < 1<<32
	case api.Enum:
		fits = slices.ContainsFunc(t.Types[ref].Symbols, func(s api.Symbol) bool { return int64(s.Number) == int64(v.N) })
	}
	return fits && len(v.B) == 0 && len(v.M) == 0
}

func isBelow(kind int, a, b api.Val) bool {
	switch kind {
	case api.String:
		return bytes.Compare(a.B, b.B) < 0
	case api.Int32, api.Int64, api.Sint32, api.Sint64, api.Sfixed32, api.Sfixed64:
		return int64(a.N) < int64(b.N)
	}
	return a.N < b.N
}

// wantSettled reads the chapter's words of what Settle tells a second time, by the table's own calls.
func wantSettled(t api.Table, index int, m api.Msg) api.Msg {
	var out api.Msg
	for _, f := range copyOf(m).Fields {
		x, _ := table.Field(t, index, f.Number)
		isDefault := x.Label == api.Plain && f.Vals[0].N == 0 && len(f.Vals[0].B) == 0
		if isDefault || len(f.Vals) == 0 {
			continue
		}
		for _, v := range f.Vals {
			if len(v.M) == 1 {
				v.M[0] = wantSettled(t, x.Ref, v.M[0])
			}
		}
		out.Fields = append(out.Fields, f)
	}
	for _, x := range m.Unknown {
		if as, _ := table.Takes(t, index, x.Number, x.Kind); as == 0 {
			out.Unknown = append(out.Unknown, x)
		}
	}
	return out
}

// TestAgain holds the calls against the chapter's words read a second time, over many messages.
func TestAgain(t *testing.T) {
	m := samples.New(81)
	counts := [3]int{}
	for range 1500 {
		x := m.Table()
		if !table.Good(x) {
			t.Fatalf("not good: %+v", x)
		}
		for range 8 {
			a := m.Message(x, 0, 3)
			for range m.Below(3) {
				a = m.Changed(a)
			}
			want := other
			if isTyped(x, 0, a) {
				want = typed
				left := wantSettled(x, 0, a)
				if told(left) == told(a) {
					want = normal
				}
				got, e := model.Settle(x, 0, a)
				if e != api.OK || told(got) != told(left) {
					t.Errorf("Settle(%s): %s, error %d; want %s; table %+v", told(a), told(got), e, told(left), x)
				}
			}
			counts[want]++
			lookAt(t, x, 0, a, want)
		}
	}
	for _, n := range counts {
		if n < 500 {
			t.Errorf("so many were not typed, typed, normal: %v", counts)
		}
	}
}

// TestSetAgain puts fields by chance, some of another message, into messages.
func TestSetAgain(t *testing.T) {
	m := samples.New(82)
	counts := map[api.Errno]int{}
	for range 6000 {
		x := m.Table()
		a, b := m.Message(x, 0, 2), m.Message(x, 0, 2)
		if m.Below(4) == 0 {
			a = m.Changed(a)
		}
		if m.Below(3) == 0 {
			b = m.Changed(b)
		}
		if len(b.Fields) == 0 {
			continue
		}
		f := samples.Pick(m, b.Fields...)
		want, wantE := api.Msg{}, api.ErrType
		if isTyped(x, 0, a) && isTyped(x, 0, msg(f)) {
			want, wantE = wantSet(x, a, f), api.OK
		}
		got, e := model.Set(x, 0, a, f)
		if e != wantE || told(got) != told(want) {
			t.Errorf("Set(%s, %s): %s, error %d; want %s, error %d; table %+v", told(a), told(msg(f)), told(got), e, told(want), wantE, x)
		}
		counts[e]++
	}
	if counts[api.OK] < 1000 || counts[api.ErrType] < 500 {
		t.Errorf("so many by error: %v", counts)
	}
}

// wantSet takes out all that has to go, and sorts.
func wantSet(t api.Table, m api.Msg, f api.Field) api.Msg {
	own, _ := table.Field(t, 0, f.Number)
	out := copyOf(m)
	out.Fields = slices.DeleteFunc(out.Fields, func(o api.Field) bool {
		x, _ := table.Field(t, 0, o.Number)
		return o.Number == f.Number || own.Label == api.Member && x.Label == api.Member && x.Oneof == own.Oneof
	})
	out.Fields = append(out.Fields, f)
	slices.SortFunc(out.Fields, func(a, b api.Field) int { return a.Number - b.Number })
	return out
}
