package samples

import (
	"math"
	"slices"
	"strconv"

	"cartouche/api"
)

// Maker makes tables and messages by chance.
type Maker struct{ state uint64 }

// New tells one: of a seed it makes the same each time.
func New(seed uint64) *Maker { return &Maker{seed} }

// Below tells a number from 0 on below n, which is above 0.
func (m *Maker) Below(n int) int {
	m.state += 0x9e3779b97f4a7c15
	x := m.state
	x = (x ^ x>>30) * 0xbf58476d1ce4e5b9
	x = (x ^ x>>27) * 0x94d049bb133111eb
	return int((x ^ x>>31) >> 1 % uint64(n))
}

// Pick tells one of a list.
func Pick[T any](m *Maker, l ...T) T { return l[m.Below(len(l))] }

// Table tells a good table; its type 0 is a message.
func (m *Maker) Table() api.Table {
	t := Table(Message("M"))
	for i := range 1 + m.Below(5) {
		x := Message("T" + strconv.Itoa(i))
		if x.Enum = m.Below(3) == 0; x.Enum {
			x.Symbols = []api.Symbol{{Name: "A"}, {Name: "B", Number: 1 + m.Below(3)}, {Name: "C", Number: high - m.Below(2)}}[:1+m.Below(3)]
		}
		t.Types = append(t.Types, x)
	}
	for i := range t.Types {
		number := 0
		for range m.Below(9) {
			if number += 1 + m.Below(2); !t.Types[i].Enum {
				m.addField(t, &t.Types[i], number)
			}
		}
	}
	return t
}

func (m *Maker) addField(t api.Table, x *api.Type, number int) {
	f := api.FieldType{Name: "f" + strconv.Itoa(number), Number: number, Kind: 1 + m.Below(api.Message), Label: m.Below(api.Map + 1)}
	if m.Below(3) == 0 || f.Kind >= api.Enum {
		f.Ref = m.Below(len(t.Types))
		if f.Kind = api.Message; t.Types[f.Ref].Enum {
			f.Kind = api.Enum
		}
	}
	switch {
	case f.Label == api.Plain && !CanBe(f.Kind, f.Label):
		f.Label = api.Optional
	case f.Label == api.Packed && !CanBe(f.Kind, f.Label):
		f.Label = api.Repeated
	case f.Label == api.Map:
		f.Key = Pick(m, KeyKinds()...)
	case f.Label == api.Member:
		if len(x.Oneofs) == 0 || m.Below(3) == 0 {
			x.Oneofs = append(x.Oneofs, "o"+strconv.Itoa(number))
			f.Oneof = len(x.Oneofs) - 1
		} else {
			f.Oneof = m.Below(len(x.Oneofs))
		}
	}
	x.Fields = append(x.Fields, f)
}

// Message tells a typed message with at most so many within one another.
func (m *Maker) Message(t api.Table, index, within int) api.Msg {
	var out api.Msg
	var taken []int
	for _, f := range t.Types[index].Fields {
		if m.Below(3) == 0 || f.Kind == api.Message && within == 0 || f.Label == api.Member && slices.Contains(taken, f.Oneof) {
			continue
		}
		if f.Label == api.Member {
			taken = append(taken, f.Oneof)
		}
		out.Fields = append(out.Fields, m.field(t, f, within))
	}
	for range m.Below(4) * m.Below(2) {
		out.Unknown = append(out.Unknown, m.Entry())
	}
	return out
}

// FieldNumber tells a number that a field may have.
func (m *Maker) FieldNumber() int { return Pick(m, 1+m.Below(16), api.MaxNumber) }

// Entry tells an entry that wire.PutEntry takes.
func (m *Maker) Entry() api.Entry {
	number := m.FieldNumber()
	return Pick(m, Varint(number, uint64(m.Below(9))), Chunk(number, Pick(m, "", "a")), api.Entry{Number: number, Kind: api.Fix32, N: 1<<32 - 1}, api.Entry{Number: number, Kind: api.Fix64, N: math.MaxUint64})
}

func (m *Maker) field(t api.Table, f api.FieldType, within int) api.Field {
	count := 1
	if f.Label == api.Repeated || f.Label == api.Packed || f.Label == api.Map {
		count = m.Below(4)
	}
	out := api.Field{Number: f.Number}
	for range count {
		out.Vals = append(out.Vals, m.Value(t, f.Kind, f.Ref, within))
	}
	if f.Label == api.Map {
		keys := Rising(f.Key)
		for len(keys) > count {
			i := m.Below(len(keys))
			keys = slices.Delete(keys, i, i+1)
		}
		out.Keys, out.Vals = keys, out.Vals[:len(keys)]
	}
	return out
}

// Value tells a typed value of a kind.
func (m *Maker) Value(t api.Table, kind, ref, within int) api.Val {
	switch kind {
	case api.Message:
		return In(m.Message(t, ref, within-1))
	case api.Enum:
		return Num(int64(Pick(m, t.Types[ref].Symbols...).Number))
	}
	good, _ := Values(kind)
	return Pick(m, good...)
}

// Wild tells a plain message in which anything may stand anywhere.
func (m *Maker) Wild(within int) api.Msg {
	var out api.Msg
	for range m.Below(4) {
		out.Fields = append(out.Fields, api.Field{Number: m.wildNumber(), Keys: m.wildVals(within), Vals: m.wildVals(within)})
		out.Unknown = append(out.Unknown, api.Entry{Number: m.wildNumber(), Kind: m.wildNumber(), N: m.wildBits(), B: m.wildBytes()})
	}
	return out
}

func (m *Maker) wildNumber() int {
	return Pick(m, m.Below(12), m.Below(6), -1, api.MaxNumber, api.MaxNumber+1, math.MinInt, math.MaxInt)
}

func (m *Maker) wildBits() uint64 { return Pick[uint64](m, 0, 1, 5, 1<<31, 1<<32, math.MaxUint64) }

func (m *Maker) wildBytes() []byte { return Pick(m, nil, nil, []byte{}, []byte("a"), []byte("\xff")) }

func (m *Maker) wildVals(within int) []api.Val {
	var l []api.Val
	for range m.Below(3) {
		v := api.Val{N: m.wildBits(), B: m.wildBytes()}
		for range m.Below(3) * min(within, 1) {
			v.M = append(v.M, m.Wild(within-1))
		}
		l = append(l, v)
	}
	return l
}

// Spoiled tells a table with one number changed, so that it may not be good.
func (m *Maker) Spoiled(t api.Table) api.Table {
	x := &t.Types[m.Below(len(t.Types))]
	n := Pick(m, 0, 1, 2, 5, 17, 18, -1, api.MaxNumber+1, math.MinInt, math.MaxInt)
	switch {
	case m.Below(4) == 0:
		x.Enum = !x.Enum
	case len(x.Symbols) > 0:
		x.Symbols[m.Below(len(x.Symbols))].Number = n
	case len(x.Fields) > 0:
		f := &x.Fields[m.Below(len(x.Fields))]
		*Pick(m, &f.Number, &f.Kind, &f.Ref, &f.Label, &f.Oneof, &f.Key) = n
	}
	return t
}
