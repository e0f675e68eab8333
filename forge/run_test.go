package forge_test

import (
	"bytes"
	"math"
	"testing"

	"cartouche/api"
	"cartouche/samples"
)

// within is the table with types in types: names with dots.
func within() api.Table {
	return samples.Table(
		samples.Message("A", api.FieldType{Name: "x", Number: 1, Kind: api.Int32}),
		samples.Message("A.B", api.FieldType{Name: "s", Number: 2, Kind: api.String}),
		api.Type{Name: "A.E", Enum: true, Symbols: []api.Symbol{{Name: "Z"}}},
		samples.Message("B", api.FieldType{Name: "a", Number: 3, Kind: api.Message, Label: api.Optional}))
}

// strangers are names that are no message's.
func strangers() []string {
	return []string{"", "a", "C", "A.", ".A", "A.C", "A.B.C", "B.A", "x", "s", "Z", "A.E", "E", "A ", " A", "AA", "A\x00", "\xff", "int32"}
}

// TestP17_3Names has names of messages, of none and of enums: by these nothing is compiled, and nothing run.
func TestP17_3Names(t *testing.T) {
	f := of(t, within())
	for _, name := range strangers() {
		for _, b := range [][]byte{nil, {8, 5}, {8}, make([]byte, api.MaxMessage+1)} {
			lookAtDecode(t, f, name, b, msg(), api.ErrNone)
			for _, workers := range []int{0, 1, 64, 65} {
				lookAtAll(t, f, name, [][]byte{b}, workers, nil, api.ErrNone)
			}
		}
		for _, m := range []api.Msg{msg(), msg(field(1, num(5))), msg(field(0)), samples.Nested(3, 40, msg())} {
			lookAtEncode(t, f, name, m, nil, api.ErrNone)
		}
	}
	lookAtCounts(t, "all refused", f, 0, 0)
	rows := []struct {
		name string
		b    []byte
		m    api.Msg
	}{
		{"A", []byte{8, 5}, msg(field(1, num(5)))},
		{"A.B", []byte{18, 1, 97}, msg(field(2, str("a")))},
		{"B", []byte{26, 2, 8, 5}, msg(field(3, samples.In(msg(field(1, num(5))))))},
	}
	for i, r := range rows {
		lookAtDecode(t, f, r.name, r.b, r.m, api.OK)
		lookAtEncode(t, f, r.name, r.m, r.b, api.OK)
		lookAtAll(t, f, r.name, [][]byte{r.b}, 1, []answer{{M: r.m}}, api.OK)
		lookAtCounts(t, r.name, f, 4, 3*(i+1))
	}
}

// TestP17_3Typed has messages that are not typed: nothing is compiled or run by these.
func TestP17_3Typed(t *testing.T) {
	f := of(t, em())
	for _, m := range []api.Msg{
		msg(field(9)), msg(field(1)), msg(field(1, num(1), num(2))), msg(field(1, num(1<<40))), msg(field(1, str("a"))), msg(field(0, num(1))), msg(field(-1, num(1))),
		msg(field(2, num(1)), field(1, num(1))), msg(field(1, num(1)), field(1, num(1))), msg(samples.Pairs(1, num(1), num(1))), msg(field(3, api.Val{})), msg(field(3, samples.In(msg(), msg()))),
		samples.Nested(3, 5, msg(field(9))), samples.Nested(3, 40, msg(field(9))), samples.Unknown(api.Entry{}), samples.Unknown(api.Entry{Number: 1, Kind: 3}), samples.Unknown(samples.Varint(api.MaxNumber+1, 1)),
	} {
		lookAtEncode(t, f, "M", m, nil, api.ErrType)
		lookAtEncode(t, f, "N", m, nil, api.ErrNone)
	}
	lookAtCounts(t, "all refused", f, 0, 0)
}

// TestP17_3Encode has messages that are written, and those that the machine refuses: it has run then.
func TestP17_3Encode(t *testing.T) {
	rows := []struct {
		m    api.Msg
		want []byte
		e    api.Errno
	}{
		{msg(), nil, api.OK},
		{msg(field(1, num(0))), nil, api.OK},
		{msg(field(1, num(7))), []byte{8, 7}, api.OK},
		{msg(field(1, num(-1)), field(2, num(1), num(2)), field(3, samples.In(msg()))), []byte{8, 255, 255, 255, 255, 255, 255, 255, 255, 255, 1, 18, 2, 1, 2, 26, 0}, api.OK},
		{samples.Unknown(samples.Varint(9, 1), samples.Varint(1, 1)), []byte{72, 1, 8, 1}, api.OK},
		{samples.Nested(3, 15, msg(field(1, num(1)))), samples.Inside(3, 15, []byte{8, 1}), api.OK},
		{samples.Nested(3, 16, msg()), nil, api.ErrTooDeep},
		{samples.Unknown(api.Entry{Number: 4, Kind: api.Chunk, B: make([]byte, api.MaxMessage-4)}), samples.Join([]byte{34}, samples.Framed(make([]byte, api.MaxMessage-4))), api.OK},
		{samples.Unknown(api.Entry{Number: 4, Kind: api.Chunk, B: make([]byte, api.MaxMessage-3)}), nil, api.ErrTooBig},
		{samples.Nested(3, 16, samples.Unknown(api.Entry{Number: 4, Kind: api.Chunk, B: make([]byte, api.MaxMessage)})), nil, api.ErrTooDeep},
	}
	f := of(t, em())
	for i, r := range rows {
		lookAtEncode(t, f, "M", r.m, r.want, r.e)
		lookAtCounts(t, "written", f, 2, i+1)
		lookAtEncode(t, f, "M", msg(field(9)), nil, api.ErrType)
		lookAtCounts(t, "refused", f, 2, i+1)
	}
}

// read is bytes, and what they are read as.
type read struct {
	b    []byte
	want answer
}

// reads are byte strings of M with each fault, and without.
func reads() []read {
	return []read{
		{nil, answer{}},
		{[]byte{8, 5}, answer{M: msg(field(1, num(5)))}},
		{[]byte{18, 2, 1, 2, 16, 3}, answer{M: msg(field(2, num(1), num(2), num(3)))}},
		{[]byte{26, 0}, answer{M: msg(field(3, samples.In(msg())))}},
		{[]byte{32, 1}, answer{M: samples.Unknown(samples.Varint(4, 1))}},
		{[]byte{8}, answer{E: api.ErrEnd}},
		{[]byte{26, 2, 8}, answer{E: api.ErrEnd}},
		{bytes.Repeat([]byte{255}, 11), answer{E: api.ErrVarint}},
		{[]byte{0}, answer{E: api.ErrNumber}},
		{[]byte{11}, answer{E: api.ErrKind}},
		{[]byte{8, 255, 255, 255, 255, 15}, answer{E: api.ErrRange}},
		{samples.Inside(3, 15, []byte{8, 1}), answer{M: samples.Nested(3, 15, msg(field(1, num(1))))}},
		{samples.Inside(3, 16, nil), answer{E: api.ErrTooDeep}},
		{make([]byte, api.MaxMessage+1), answer{E: api.ErrTooBig}},
	}
}

// TestP17_3Decode has byte strings that are read, and those with faults: the machine has run with each.
func TestP17_3Decode(t *testing.T) {
	f := of(t, em())
	for i, r := range reads() {
		lookAtDecode(t, f, "M", r.b, r.want.M, r.want.E)
		lookAtCounts(t, "read", f, 2, i+1)
	}
}

// TestP17_3DecodeAll has them all, by any number of workers, in any order: each answer stands at its place.
func TestP17_3DecodeAll(t *testing.T) {
	m := samples.New(1731)
	f := of(t, em())
	rows, runs := reads(), 0
	for workers := 1; workers <= 64; workers++ {
		var l [][]byte
		var wants []answer
		for range m.Below(100) {
			r := samples.Pick(m, rows...)
			l, wants = append(l, r.b), append(wants, r.want)
		}
		lookAtAll(t, f, "M", l, workers, wants, api.OK)
		runs += len(l)
		lookAtCounts(t, "read", f, 2, runs)
		for _, none := range []int{0, 65, -workers, 64 + workers, math.MaxInt, math.MinInt} {
			lookAtAll(t, f, "M", l, none, nil, api.ErrArg)
			lookAtAll(t, f, "E", l, none, nil, api.ErrNone)
		}
		lookAtCounts(t, "refused", f, 2, runs)
	}
}

// TestP17_3None reads none: nothing is run, and nothing asked for that would have to be compiled.
func TestP17_3None(t *testing.T) {
	f := of(t, em())
	for _, l := range [][][]byte{nil, {}} {
		lookAtAll(t, f, "M", l, 3, nil, api.OK)
		lookAtAll(t, f, "M", l, 0, nil, api.ErrArg)
		lookAtAll(t, f, "M", l, 65, nil, api.ErrArg)
		lookAtAll(t, f, "E", l, 0, nil, api.ErrNone)
	}
	lookAtCounts(t, "none", f, 0, 0)
	lookAtAll(t, f, "M", [][]byte{nil}, 64, []answer{{}}, api.OK)
	lookAtCounts(t, "one without bytes", f, 2, 1)
}

// TestP17_3First has a call of each sort as the first one: what is run is compiled whole.
func TestP17_3First(t *testing.T) {
	f := of(t, wide())
	lookAtDecode(t, f, "V", nil, msg(), api.OK)
	lookAtCounts(t, "Decode", f, 3, 1)
	f = of(t, wide())
	lookAtDecode(t, f, "V", []byte{1}, msg(), api.ErrNumber)
	lookAtCounts(t, "Decode with a fault", f, 3, 1)
	f = of(t, wide())
	lookAtEncode(t, f, "V", msg(), nil, api.OK)
	lookAtCounts(t, "Encode", f, 3, 1)
	f = of(t, wide())
	lookAtAll(t, f, "V", [][]byte{{1}, nil}, 2, []answer{{E: api.ErrNumber}, {}}, api.OK)
	lookAtCounts(t, "DecodeAll", f, 3, 2)
}
