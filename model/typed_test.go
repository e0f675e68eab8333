package model_test

import (
	"fmt"
	"math"
	"slices"
	"testing"

	"cartouche/api"
	"cartouche/model"
)

func TestP8_1Examples(t *testing.T) {
	x := func(n int64) api.Msg { return msg(field(1, num(n))) }
	for _, row := range []struct {
		m    api.Msg
		want int
	}{
		{x(5), normal},
		{x(1 << 40), other},
		{msg(field(9, num(1))), other},
		{msg(field(2, num(1), num(2))), normal},
		{msg(field(1, num(1), num(2))), other},
		{x(0), typed},
		{msg(field(3, in(msg()))), normal},
		{unknown(varint(1, 5)), typed},
		{unknown(chunk(1, "..")), normal},
	} {
		lookAt(t, em(), 1, row.m, row.want)
	}
}

// refused asks each call that has a table: it must tell ErrArg, and nothing beside.
func refused(t *testing.T, what string, x api.Table, index int, m api.Msg, f api.Field) {
	t.Helper()
	isTyped, e1 := model.Typed(x, index, m)
	isNormal, e2 := model.Normal(x, index, m)
	with, e3 := model.Set(x, index, m, f)
	settled, e4 := model.Settle(x, index, m)
	for i, e := range []api.Errno{e1, e2, e3, e4} {
		if e != api.ErrArg {
			t.Errorf("%s, index %d: call %d tells error %d", what, index, i, e)
		}
	}
	if isTyped || isNormal || told(with) != "{}" || told(settled) != "{}" {
		t.Errorf("%s, index %d: more than an error: %v, %v, %s, %s", what, index, isTyped, isNormal, told(with), told(settled))
	}
}

// messagesBeside are typed and not typed: an index or a table that is refused is so whatever the message is.
func messagesBeside() []api.Msg {
	return []api.Msg{msg(), msg(field(1, num(5))), msg(field(1, num(1<<40))), msg(field(2), field(1)), unknown(varint(0, 0))}
}

func TestErrArgOfIndices(t *testing.T) {
	for _, m := range messagesBeside() {
		for _, index := range []int{-1, 0, 2, 3, 128, math.MinInt, math.MaxInt} {
			refused(t, "E, M", em(), index, m, field(1, num(1)))
		}
		refused(t, "no types", tableOf(), 0, m, field(1, num(1)))
		for _, index := range []int{-1, 0, 3, 4} {
			refused(t, "E, W, V", wide(), index, m, field(2, num(1)))
		}
	}
	lookAt(t, em(), 1, msg(), normal)
	lookAt(t, wide(), 1, msg(), normal)
	lookAt(t, wide(), 2, msg(), normal)
}

func TestErrArgOfTables(t *testing.T) {
	type change = func(x *api.Table)
	for what, c := range map[string]change{
		"a name that is none":         func(x *api.Table) { x.Types[1].Name = "1" },
		"a name twice":                func(x *api.Table) { x.Types[1].Name = "E" },
		"a kind below":                func(x *api.Table) { x.Types[1].Fields[0].Kind = 0 },
		"a kind above":                func(x *api.Table) { x.Types[1].Fields[0].Kind = api.Message + 1 },
		"a kind far off":              func(x *api.Table) { x.Types[1].Fields[0].Kind = math.MinInt },
		"a label above":               func(x *api.Table) { x.Types[1].Fields[0].Label = api.Map + 1 },
		"a label below":               func(x *api.Table) { x.Types[1].Fields[0].Label = -1 },
		"a Ref above":                 func(x *api.Table) { x.Types[1].Fields[2].Ref = 2 },
		"a Ref below":                 func(x *api.Table) { x.Types[1].Fields[2].Ref = -1 },
		"a Ref of the other sort":     func(x *api.Table) { x.Types[1].Fields[2].Ref = 0 },
		"a Ref of a number":           func(x *api.Table) { x.Types[1].Fields[0].Ref = 1 },
		"a oneof that is none":        func(x *api.Table) { x.Types[1].Fields[0].Label = api.Member },
		"a oneof far off":             func(x *api.Table) { x.Types[1].Fields[0].Label, x.Types[1].Fields[0].Oneof = api.Member, 1000 },
		"a oneof without members":     func(x *api.Table) { x.Types[1].Oneofs = []string{"o"} },
		"a key that is none":          func(x *api.Table) { x.Types[1].Fields[0].Label, x.Types[1].Fields[0].Key = api.Map, api.Float },
		"a key without a map":         func(x *api.Table) { x.Types[1].Fields[0].Key = api.Bool },
		"numbers that do not rise":    func(x *api.Table) { x.Types[1].Fields[0].Number = 2 },
		"the number 0":                func(x *api.Table) { x.Types[1].Fields[0].Number = 0 },
		"an enum without symbols":     func(x *api.Table) { x.Types[0].Symbols = nil },
		"a fault in a type elsewhere": func(x *api.Table) { x.Types = append(x.Types, api.Type{Name: "N", Enum: true}) },
		"too many types": func(x *api.Table) {
			for i := range api.MaxTypes {
				x.Types = append(x.Types, messageOf(fmt.Sprint("N", i)))
			}
		},
	} {
		x := em()
		c(&x)
		for _, m := range messagesBeside() {
			for index := -1; index < len(x.Types)+1; index++ {
				refused(t, what, x, index, m, field(1, num(1)))
			}
		}
	}
}

// In the tables that single tells: the type of messages within (its field 1 is an Int32, Plain), the type that is asked, and its field's number.
const (
	inner  = 1
	around = 2
	number = 7
)

// single tells a table in which the type around has a field of that kind and label alone.
func single(kind, label, key int) api.Table {
	f := api.FieldType{Name: "f", Number: number, Kind: kind, Label: label, Key: key}
	x := messageOf("T", f)
	if kind == api.Message {
		x.Fields[0].Ref = inner
	}
	if label == api.Member {
		x.Oneofs = []string{"o"}
	}
	return tableOf(symbolsType(), messageOf("I", api.FieldType{Name: "x", Number: 1, Kind: api.Int32}), x)
}

// values tells values of a kind: typed ones (the default first, those of numbers rising), and others.
func values(kind int) (good, bad []api.Val) {
	const low, high = -1 << 31, 1<<31 - 1
	top := api.Val{N: math.MaxUint64}
	switch kind {
	case api.Bool:
		good, bad = []api.Val{num(0), num(1)}, []api.Val{num(2), num(256), num(1 << 32), top}
	case api.Int32, api.Sint32, api.Sfixed32:
		good, bad = []api.Val{num(0), num(low), num(-1), num(1), num(high)}, []api.Val{num(high + 1), num(low - 1), num(1<<32 - 1), num(math.MaxInt64), num(math.MinInt64)}
	case api.Int64, api.Sint64, api.Sfixed64:
		good = []api.Val{num(0), num(math.MinInt64), num(-1), num(1), num(math.MaxInt64)}
	case api.Uint32, api.Fixed32, api.Float:
		good, bad = []api.Val{num(0), num(1), num(1 << 31), num(1<<32 - 1)}, []api.Val{num(1 << 32), num(-1), num(math.MinInt64)}
	case api.Uint64, api.Fixed64, api.Double:
		good = []api.Val{num(0), num(1), num(1 << 63 >> 1), num(math.MinInt64), top}
	case api.Enum:
		good, bad = []api.Val{num(0), num(5), num(high)}, []api.Val{num(1), num(4), num(6), num(high - 1), num(high + 1), num(1 << 32), num(1<<32 + 5), num(-1), num(low)}
	case api.String:
		good = []api.Val{str(""), str("\x00"), str("a"), str("ab"), str("b"), str("\u00e9\ufffd"), str("\U0010ffff")}
		bad = []api.Val{str("\xff"), str("a\xc3"), str("\xed\xa0\x80"), str("\xc0\x80"), str("\xf4\x90\x80\x80"), {N: 1}, {N: 1, B: []byte("a")}}
	case api.Bytes:
		good, bad = []api.Val{str(""), str("\x00"), str("a"), str("\xff"), str("\xed\xa0\x80")}, []api.Val{{N: 1}, {N: 1 << 63, B: []byte("a")}}
	case api.Message:
		five := msg(field(1, num(5)))
		good = []api.Val{in(msg()), in(five), {B: []byte{}, M: []api.Msg{unknown(varint(9, 1))}}}
		bad = []api.Val{{}, {M: []api.Msg{}}, in(five, five), in(msg(), msg()), {N: 1, M: []api.Msg{five}}, {B: []byte{0}, M: []api.Msg{five}}, in(msg(field(1, num(1<<31)))), in(msg(field(2, num(1)))), in(unknown(varint(0, 0))), in(msg(field(1, in(msg())))), num(0), num(7), str("a")}
	}
	if kind < api.String || kind == api.Enum {
		bad = append(bad, api.Val{B: []byte{0}}, api.Val{N: 1, B: []byte("a")})
	}
	if kind != api.Message {
		bad = append(bad, in(msg()), api.Val{M: []api.Msg{{}, {}}}, api.Val{N: 1, M: []api.Msg{{}}})
	}
	return good, bad
}

// TestP8_1Single has one value of each kind in fields of each label that has just one.
func TestP8_1Single(t *testing.T) {
	for kind := api.Bool; kind <= api.Message; kind++ {
		good, bad := values(kind)
		for _, label := range []int{api.Plain, api.Optional, api.Member} {
			if label == api.Plain && kind == api.Message {
				continue
			}
			x := single(kind, label, 0)
			look := func(want int, l ...api.Val) { t.Helper(); lookAt(t, x, around, msg(field(number, l...)), want) }
			look(other)
			for i, v := range good {
				want := normal
				if i == 0 && label == api.Plain {
					want = typed
				}
				look(want, v)
				look(other, v, v)
				look(other, v, v, v)
				lookAt(t, x, around, msg(api.Field{Number: number, Keys: []api.Val{num(0)}, Vals: []api.Val{v}}), other)
				lookAt(t, x, around, msg(api.Field{Number: number, Keys: []api.Val{}, Vals: []api.Val{v}}), want)
			}
			for _, v := range bad {
				look(other, v)
			}
		}
	}
}

// TestP8_1Lists has any number of values.
func TestP8_1Lists(t *testing.T) {
	for kind := api.Bool; kind <= api.Message; kind++ {
		good, bad := values(kind)
		for _, label := range []int{api.Repeated, api.Packed} {
			if label == api.Packed && (kind == api.String || kind == api.Bytes || kind == api.Message) {
				continue
			}
			x := single(kind, label, 0)
			look := func(want int, l ...api.Val) { t.Helper(); lookAt(t, x, around, msg(field(number, l...)), want) }
			look(typed)
			look(normal, good...)
			look(normal, append(slices.Clone(good), good...)...) // not rising, and some twice
			look(normal, slices.Repeat(good[:1], 300)...)
			for _, v := range good {
				look(normal, v)
				lookAt(t, x, around, msg(api.Field{Number: number, Keys: []api.Val{num(0)}, Vals: []api.Val{v}}), other)
			}
			lookAt(t, x, around, msg(api.Field{Number: number, Keys: []api.Val{num(0)}}), other)
			for _, v := range bad {
				look(other, v)
				look(other, append(slices.Clone(good), v)...)
				look(other, append([]api.Val{v}, good...)...)
			}
		}
	}
}

// rising tells typed keys of a kind in order.
func rising(kind int) []api.Val {
	good, _ := values(kind)
	if good[1].N > math.MaxInt64 { // a signed kind: 0 stands ahead of those below it
		good = append(good[1:3:3], append([]api.Val{good[0]}, good[3:]...)...)
	}
	return good
}

// TestP8_1Keys has keys of each kind, with values of a kind.
func TestP8_1Keys(t *testing.T) {
	for _, key := range []int{api.Bool, api.Int32, api.Int64, api.Uint32, api.Uint64, api.Sint32, api.Sint64, api.Fixed32, api.Fixed64, api.Sfixed32, api.Sfixed64, api.String} {
		x := single(api.Int32, api.Map, key)
		look := func(want int, keys ...api.Val) {
			t.Helper()
			lookAt(t, x, around, msg(api.Field{Number: number, Keys: keys, Vals: make([]api.Val, len(keys))}), want)
		}
		good := rising(key)
		_, bad := values(key)
		look(typed)
		look(normal, good...)
		for i, k := range good {
			look(normal, k)
			look(other, k, k)
			look(other, append(slices.Clone(good), k)...)
			for _, below := range good[:i] {
				look(normal, below, k)
				look(other, k, below)
				look(other, below, k, below)
			}
		}
		for _, k := range bad {
			look(other, k)
			look(other, append(slices.Clone(good), k)...)
			look(other, append([]api.Val{k}, good...)...)
		}
	}
}

// TestP8_1Maps has values of each kind, and keys more and fewer than there are values.
func TestP8_1Maps(t *testing.T) {
	for kind := api.Bool; kind <= api.Message; kind++ {
		good, bad := values(kind)
		x := single(kind, api.Map, api.Uint32)
		look := func(want int, l ...api.Val) {
			t.Helper()
			f := field(number, l...)
			for i := range l {
				f.Keys = append(f.Keys, num(int64(10*i)))
			}
			lookAt(t, x, around, msg(f), want)
			f.Keys = append(f.Keys, num(10000))
			lookAt(t, x, around, msg(f), other)
			if len(l) > 0 {
				f.Keys = f.Keys[:len(l)-1]
				lookAt(t, x, around, msg(f), other)
			}
		}
		look(typed)
		look(normal, good...)
		for _, v := range good {
			look(normal, v)
			look(normal, v, v)
			lookAt(t, x, around, msg(field(number, v)), other)
		}
		for _, v := range bad {
			look(other, v)
			look(other, append(slices.Clone(good), v)...)
			look(other, append([]api.Val{v}, good...)...)
		}
	}
}

// TestP8_1Numbers has fields that do not rise, that are there twice, or that the type has not.
func TestP8_1Numbers(t *testing.T) {
	one := func(n int) api.Field {
		if n == 3 {
			return field(n, in(msg()))
		}
		return field(n, num(1))
	}
	look := func(want int, l ...int) {
		t.Helper()
		var m api.Msg
		for _, n := range l {
			m.Fields = append(m.Fields, one(n))
		}
		lookAt(t, em(), 1, m, want)
		lookAt(t, em(), 1, msg(field(3, in(m))), want)
	}
	for _, l := range [][]int{{}, {1}, {2}, {3}, {1, 2}, {1, 3}, {2, 3}, {1, 2, 3}} {
		look(normal, l...)
	}
	for _, l := range [][]int{{2, 1}, {3, 1}, {3, 2}, {1, 3, 2}, {2, 1, 3}, {3, 2, 1}, {1, 1}, {2, 2}, {3, 3}, {1, 1, 2}, {1, 2, 2}, {1, 2, 1}, {1, 2, 3, 3}} {
		look(other, l...)
	}
	for _, n := range []int{0, -1, 4, 5, api.MaxNumber, api.MaxNumber + 1, 1<<32 + 1, math.MinInt, math.MaxInt} {
		look(other, n)
		look(other, 1, n)
		look(other, n, 3)
		lookAt(t, em(), 1, msg(field(n)), other)
	}
	lookAt(t, wide(), 2, msg(field(8, num(1))), other) // a reserved number
	lookAt(t, wide(), 1, msg(field(api.MaxNumber, str("a"))), normal)
	lookAt(t, wide(), 1, msg(field(api.MaxNumber-1, str("a"))), other)
}

func TestP8_1Oneofs(t *testing.T) {
	a1, a2, b1, b2 := field(11, num(0)), field(13, in(msg())), field(12, in(msg())), field(14, str(""))
	for _, l := range [][]api.Field{{a1}, {a2}, {b1}, {b2}, {a1, b1}, {a1, b2}, {b1, a2}, {a2, b2}} {
		lookAt(t, wide(), 1, msg(l...), normal)
		lookAt(t, wide(), 1, msg(field(8, in(msg(l...)))), normal)
	}
	for _, l := range [][]api.Field{{a1, a2}, {b1, b2}, {a1, b1, a2}, {a1, b1, b2}, {b1, a2, b2}, {a1, a2, b2}, {a1, b1, a2, b2}} {
		lookAt(t, wide(), 1, msg(l...), other)
		lookAt(t, wide(), 1, msg(field(5, in(msg(field(5, in(msg(l...))))))), other)
	}
}

// TestP8_1ManyOneofs has as many oneofs as there can be.
func TestP8_1ManyOneofs(t *testing.T) {
	x := messageOf("M")
	var m api.Msg
	for i := range api.MaxFields {
		x.Oneofs = append(x.Oneofs, fmt.Sprint("o", i))
		x.Fields = append(x.Fields, api.FieldType{Name: fmt.Sprint("f", i), Number: i + 1, Kind: api.Bool, Label: api.Member, Oneof: i})
		m.Fields = append(m.Fields, field(i+1, num(0)))
	}
	lookAt(t, tableOf(x), 0, m, normal)
	one := messageOf("N", slices.Clone(x.Fields)...)
	one.Oneofs = []string{"o"}
	for i := range one.Fields {
		one.Fields[i].Oneof = 0
	}
	lookAt(t, tableOf(one), 0, m, other)
	lookAt(t, tableOf(one), 0, msg(m.Fields[127]), normal)
	lookAt(t, tableOf(one), 0, msg(m.Fields[0], m.Fields[127]), other)
}

func TestP8_1Unknown(t *testing.T) {
	good := []api.Entry{
		varint(4, 0), varint(4, math.MaxUint64), varint(api.MaxNumber, 1), chunk(9, ""), chunk(9, "\xff\x00"), chunk(1, "taken by none"), varint(3, 1),
		{Number: 5, Kind: api.Fix32, N: 1<<32 - 1}, {Number: 5, Kind: api.Fix64, N: math.MaxUint64}, {Number: 1, Kind: api.Fix32}, {Number: 3, Kind: api.Fix64, B: []byte{}},
	}
	bad := []api.Entry{
		varint(0, 1), varint(-1, 1), varint(api.MaxNumber+1, 1), varint(math.MinInt, 1), varint(math.MaxInt, 1),
		{Number: 9, Kind: 3}, {Number: 9, Kind: 4}, {Number: 9, Kind: 6}, {Number: 9, Kind: 7}, {Number: 9, Kind: 8}, {Number: 9, Kind: -1}, {Number: 1, Kind: math.MaxInt},
		{Number: 9, Kind: api.Fix32, N: 1 << 32}, {Number: 9, Kind: api.Fix32, N: math.MaxUint64}, {Number: 9, Kind: api.Chunk, N: 1}, {Number: 9, Kind: api.Chunk, N: 1, B: []byte("a")},
		{Number: 9, B: []byte{0}}, {Number: 9, Kind: api.Fix64, B: []byte{0}}, {Number: 9, Kind: api.Fix32, B: []byte{0}},
	}
	lookAt(t, em(), 1, unknown(good...), normal)
	lookAt(t, em(), 1, unknown(append(slices.Clone(good), good...)...), normal)
	for _, x := range good {
		lookAt(t, em(), 1, unknown(x), normal)
	}
	for _, x := range bad {
		lookAt(t, em(), 1, unknown(x), other)
		lookAt(t, em(), 1, unknown(append(slices.Clone(good), x)...), other)
		lookAt(t, em(), 1, unknown(append([]api.Entry{x}, good...)...), other)
		lookAt(t, em(), 1, msg(field(3, in(unknown(x)))), other)
	}
}
