package model_test

import (
	"bytes"
	"fmt"
	"math"
	"math/rand"
	"slices"
	"testing"
	"unicode/utf8"

	"cartouche/api"
	"cartouche/model"
	"cartouche/table"
)

// maker makes tables and messages by chance.
type maker struct{ chance *rand.Rand }

func newMaker(seed int64) *maker { return &maker{rand.New(rand.NewSource(seed))} }

func pick[T any](m *maker, l ...T) T { return l[m.chance.Intn(len(l))] }

// table tells a good table; its type 0 is a message.
func (m *maker) table() api.Table {
	t := tableOf(messageOf("M"))
	for i := range 1 + m.chance.Intn(5) {
		x := messageOf(fmt.Sprint("T", i))
		if x.Enum = m.chance.Intn(3) == 0; x.Enum {
			x.Symbols = []api.Symbol{{Name: "A"}, {Name: "B", Number: 1 + m.chance.Intn(3)}, {Name: "C", Number: 1<<31 - 1 - m.chance.Intn(2)}}[:1+m.chance.Intn(3)]
		}
		t.Types = append(t.Types, x)
	}
	for i := range t.Types {
		number := 0
		for range m.chance.Intn(9) {
			if number += 1 + m.chance.Intn(2); !t.Types[i].Enum {
				m.addField(t, &t.Types[i], number)
			}
		}
	}
	return t
}

func (m *maker) addField(t api.Table, x *api.Type, number int) {
	f := api.FieldType{Name: fmt.Sprint("f", number), Number: number, Kind: 1 + m.chance.Intn(api.Message), Label: m.chance.Intn(api.Map + 1)}
	if m.chance.Intn(3) == 0 || f.Kind >= api.Enum {
		f.Ref = m.chance.Intn(len(t.Types))
		if f.Kind = api.Message; t.Types[f.Ref].Enum {
			f.Kind = api.Enum
		}
	}
	isChunk := f.Kind == api.String || f.Kind == api.Bytes || f.Kind == api.Message
	switch {
	case f.Label == api.Plain && f.Kind == api.Message:
		f.Label = api.Optional
	case f.Label == api.Packed && isChunk:
		f.Label = api.Repeated
	case f.Label == api.Map:
		f.Key = pick(m, api.Bool, api.Int32, api.Int64, api.Uint32, api.Uint64, api.Sint32, api.Sint64, api.Fixed32, api.Fixed64, api.Sfixed32, api.Sfixed64, api.String)
	case f.Label == api.Member:
		if len(x.Oneofs) == 0 || m.chance.Intn(3) == 0 {
			x.Oneofs = append(x.Oneofs, fmt.Sprint("o", number))
			f.Oneof = len(x.Oneofs) - 1
		} else {
			f.Oneof = m.chance.Intn(len(x.Oneofs))
		}
	}
	x.Fields = append(x.Fields, f)
}

// message tells a typed message, of at most that depth as far as fields need no message.
func (m *maker) message(t api.Table, index, depth int) api.Msg {
	var out api.Msg
	x := t.Types[index]
	taken := map[int]bool{}
	for _, f := range x.Fields {
		if m.chance.Intn(3) == 0 || f.Kind == api.Message && depth == 0 || f.Label == api.Member && taken[f.Oneof] {
			continue
		}
		taken[f.Oneof] = taken[f.Oneof] || f.Label == api.Member
		out.Fields = append(out.Fields, m.field(t, f, depth))
	}
	for range m.chance.Intn(4) * m.chance.Intn(2) {
		out.Unknown = append(out.Unknown, pick(m, varint(m.fieldNumber(), uint64(m.chance.Intn(9))), chunk(m.fieldNumber(), pick(m, "", "a")), api.Entry{Number: m.fieldNumber(), Kind: api.Fix32, N: 1<<32 - 1}, api.Entry{Number: m.fieldNumber(), Kind: api.Fix64, N: math.MaxUint64}))
	}
	return out
}

func (m *maker) fieldNumber() int { return pick(m, 1+m.chance.Intn(16), api.MaxNumber) }

func (m *maker) field(t api.Table, f api.FieldType, depth int) api.Field {
	count := 1
	if f.Label == api.Repeated || f.Label == api.Packed || f.Label == api.Map {
		count = m.chance.Intn(4)
	}
	out := api.Field{Number: f.Number}
	for range count {
		out.Vals = append(out.Vals, m.value(t, f.Kind, f.Ref, depth))
	}
	if f.Label == api.Map {
		keys := rising(f.Key)
		for len(keys) > count {
			i := m.chance.Intn(len(keys))
			keys = append(keys[:i:i], keys[i+1:]...)
		}
		out.Keys, out.Vals = keys, out.Vals[:len(keys)]
	}
	return out
}

func (m *maker) value(t api.Table, kind, ref, depth int) api.Val {
	switch kind {
	case api.Message:
		return in(m.message(t, ref, depth-1))
	case api.Enum:
		return num(int64(pick(m, t.Types[ref].Symbols...).Number))
	}
	good, _ := values(kind)
	return pick(m, good...)
}

// changed tells a message with one thing changed by chance.
func (m *maker) changed(x api.Msg) api.Msg {
	count := 0
	see := func() { count++ }
	c := copyOf(x)
	touch{number: func(*int) { see() }, bits: func(*uint64) { see() }, bytes: func(*[]byte) { see() }, vals: func(*[]api.Val) { see() }, msgs: func(*[]api.Msg) { see() }, fields: func(*[]api.Field) { see() }, rest: func(*[]api.Entry) { see() }}.message(&c)
	place, at := m.chance.Intn(count), 0
	here := func() bool { at++; return at-1 == place }
	way := m.chance.Intn(4)
	touch{
		number: func(n *int) {
			if here() {
				*n = pick(m, *n+1, *n-1, *n+2, 0, 1, 2, 3, 5, -1, api.MaxNumber, api.MaxNumber+1, math.MinInt, math.MaxInt)
			}
		},
		bits: func(n *uint64) {
			if here() {
				*n = pick(m, 0, 1, 2, 3, *n+1, *n-1, *n^1<<31, *n^1<<32, 1<<31, 1<<31-1, 1<<32, math.MaxUint64, math.MaxUint64-(1<<31-1), math.MaxUint64-(1<<32-1))
			}
		},
		bytes: func(b *[]byte) {
			if here() {
				*b = pick(m, nil, []byte("a"), []byte("\xff"), append(*b, 0), append([]byte("b"), *b...), []byte("\xc3\xa9"))
			}
		},
		vals:   func(l *[]api.Val) { m.changeList(here(), way, l) },
		msgs:   func(l *[]api.Msg) { changeIf(here(), way, l, api.Msg{}) },
		fields: func(l *[]api.Field) { m.changeFields(here(), way, l) },
		rest: func(l *[]api.Entry) {
			changeIf(here(), way, l, api.Entry{Number: m.fieldNumber(), Kind: m.chance.Intn(6)})
		},
	}.message(&c)
	return c
}

// changeList has two that change their places, too.
func (m *maker) changeList(so bool, way int, l *[]api.Val) {
	if so && len(*l) > 1 && m.chance.Intn(2) == 0 {
		i := 1 + m.chance.Intn(len(*l)-1)
		(*l)[i-1], (*l)[i] = (*l)[i], (*l)[i-1]
		return
	}
	changeIf(so, way, l, pick(m, num(0), num(1), str("a"), in(msg())))
}

func (m *maker) changeFields(so bool, way int, l *[]api.Field) {
	if so && len(*l) > 1 && m.chance.Intn(2) == 0 {
		i := 1 + m.chance.Intn(len(*l)-1)
		(*l)[i-1], (*l)[i] = (*l)[i], (*l)[i-1]
		return
	}
	changeIf(so, way, l, field(m.fieldNumber(), pick(m, num(0), num(1), str("a"), in(msg()))))
}

// isTyped reads the chapter's words of a typed message a second time.
func isTyped(t api.Table, index int, m api.Msg) bool {
	oneofs := map[int]int{}
	for i, f := range m.Fields {
		at := slices.IndexFunc(t.Types[index].Fields, func(x api.FieldType) bool { return x.Number == f.Number })
		if at < 0 || i > 0 && m.Fields[i-1].Number >= f.Number {
			return false
		}
		x := t.Types[index].Fields[at]
		isList := x.Label == api.Repeated || x.Label == api.Packed
		isMap := x.Label == api.Map
		if x.Label == api.Member {
			oneofs[x.Oneof]++
		}
		if !isMap && len(f.Keys) > 0 || isMap && len(f.Keys) != len(f.Vals) || !isMap && !isList && len(f.Vals) != 1 || oneofs[x.Oneof] > 1 {
			return false
		}
		for _, v := range f.Vals {
			if !isTypedValue(t, x.Kind, x.Ref, v) {
				return false
			}
		}
		for i, k := range f.Keys {
			if !isTypedValue(t, x.Key, 0, k) || i > 0 && !isBelow(x.Key, f.Keys[i-1], k) {
				return false
			}
		}
	}
	return !slices.ContainsFunc(m.Unknown, func(x api.Entry) bool {
		isBad := x.Number < 1 || x.Number > 536870911 || x.Kind != 2 && len(x.B) > 0
		switch x.Kind {
		case 0, 1:
			return isBad
		case 2:
			return isBad || x.N != 0
		case 5:
			return isBad || x.N > 4294967295
		}
		return true
	})
}

func isTypedValue(t api.Table, kind, ref int, v api.Val) bool {
	switch kind {
	case api.Message:
		return v.N == 0 && len(v.B) == 0 && len(v.M) == 1 && isTyped(t, ref, v.M[0])
	case api.String:
		return v.N == 0 && len(v.M) == 0 && utf8.Valid(v.B)
	case api.Bytes:
		return v.N == 0 && len(v.M) == 0
	}
	fits := true
	switch kind {
	case api.Bool:
		fits = v.N < 2
	case api.Int32, api.Sint32, api.Sfixed32:
		fits = int64(v.N) >= math.MinInt32 && int64(v.N) <= math.MaxInt32
	case api.Uint32, api.Fixed32, api.Float:
		fits = v.N < 1<<32
	case api.Enum:
		fits = slices.ContainsFunc(t.Types[ref].Symbols, func(s api.Symbol) bool { return int64(s.Number) == int64(v.N) })
	}
	return fits && len(v.B) == 0 && len(v.M) == 0
}

func isBelow(kind int, a, b api.Val) bool {
	switch kind {
	case api.String:
		return bytes.Compare(a.B, b.B) < 0
	case api.Int32, api.Int64, api.Sint32, api.Sint64, api.Sfixed32, api.Sfixed64:
		return int64(a.N) < int64(b.N)
	}
	return a.N < b.N
}

// wantSettled reads the chapter's words of what Settle tells a second time, by the table's own calls.
func wantSettled(t api.Table, index int, m api.Msg) api.Msg {
	var out api.Msg
	for _, f := range copyOf(m).Fields {
		x, _ := table.Field(t, index, f.Number)
		isDefault := x.Label == api.Plain && f.Vals[0].N == 0 && len(f.Vals[0].B) == 0
		if isDefault || len(f.Vals) == 0 {
			continue
		}
		for _, v := range f.Vals {
			if len(v.M) == 1 {
				v.M[0] = wantSettled(t, x.Ref, v.M[0])
			}
		}
		out.Fields = append(out.Fields, f)
	}
	for _, x := range m.Unknown {
		if as, _ := table.Takes(t, index, x.Number, x.Kind); as == 0 {
			out.Unknown = append(out.Unknown, x)
		}
	}
	return out
}

// TestAgain holds the calls against the chapter's words read a second time, over many messages.
func TestAgain(t *testing.T) {
	m := newMaker(81)
	counts := [3]int{}
	for range 1500 {
		x := m.table()
		if !table.Good(x) {
			t.Fatalf("not good: %+v", x)
		}
		for range 8 {
			a := m.message(x, 0, 3)
			for range m.chance.Intn(3) {
				a = m.changed(a)
			}
			want := other
			if isTyped(x, 0, a) {
				want = typed
				left := wantSettled(x, 0, a)
				if told(left) == told(a) {
					want = normal
				}
				got, e := model.Settle(x, 0, a)
				if e != api.OK || told(got) != told(left) {
					t.Errorf("Settle(%s): %s, error %d; want %s; table %+v", told(a), told(got), e, told(left), x)
				}
			}
			counts[want]++
			lookAt(t, x, 0, a, want)
		}
	}
	for _, n := range counts {
		if n < 500 {
			t.Errorf("so many were not typed, typed, normal: %v", counts)
		}
	}
}

// TestSetAgain puts fields by chance, some of another message, into messages.
func TestSetAgain(t *testing.T) {
	m := newMaker(82)
	counts := map[api.Errno]int{}
	for range 6000 {
		x := m.table()
		a, b := m.message(x, 0, 2), m.message(x, 0, 2)
		if m.chance.Intn(4) == 0 {
			a = m.changed(a)
		}
		if m.chance.Intn(3) == 0 {
			b = m.changed(b)
		}
		if len(b.Fields) == 0 {
			continue
		}
		f := pick(m, b.Fields...)
		want, wantE := api.Msg{}, api.ErrType
		if isTyped(x, 0, a) && isTyped(x, 0, msg(f)) {
			want, wantE = wantSet(x, a, f), api.OK
		}
		got, e := model.Set(x, 0, a, f)
		if e != wantE || told(got) != told(want) {
			t.Errorf("Set(%s, %s): %s, error %d; want %s, error %d; table %+v", told(a), told(msg(f)), told(got), e, told(want), wantE, x)
		}
		counts[e]++
	}
	if counts[api.OK] < 1000 || counts[api.ErrType] < 500 {
		t.Errorf("so many by error: %v", counts)
	}
}

// wantSet takes out all that has to go, and sorts.
func wantSet(t api.Table, m api.Msg, f api.Field) api.Msg {
	own, _ := table.Field(t, 0, f.Number)
	out := copyOf(m)
	out.Fields = slices.DeleteFunc(out.Fields, func(o api.Field) bool {
		x, _ := table.Field(t, 0, o.Number)
		return o.Number == f.Number || own.Label == api.Member && x.Label == api.Member && x.Oneof == own.Oneof
	})
	out.Fields = append(out.Fields, f)
	slices.SortFunc(out.Fields, func(a, b api.Field) int { return a.Number - b.Number })
	return out
}
