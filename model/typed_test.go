package model_test

import (
	"fmt"
	"math"
	"slices"
	"testing"

	"cartouche/api"
	"cartouche/model"
	"cartouche/samples"
)

func TestP8_1Examples(t *testing.T) {
	x := func(n int64) api.Msg { return msg(field(1, num(n))) }
	for _, row := range []struct {
		m    api.Msg
		want int
	}{
		{x(5), normal},
		{x(1 << 40), other},
		{msg(field(9, num(1))), other},
		{msg(field(2, num(1), num(2))), normal},
		{msg(field(1, num(1), num(2))), other},
		{x(0), typed},
		{msg(field(3, in(msg()))), normal},
		{unknown(varint(1, 5)), typed},
		{unknown(chunk(1, "..")), normal},
	} {
		lookAt(t, em(), 1, row.m, row.want)
	}
}

// refused asks each call that has a table: it must tell ErrArg, and nothing beside.
func refused(t *testing.T, what string, x api.Table, index int, m api.Msg, f api.Field) {
	t.Helper()
	isTyped, e1 := model.Typed(x, index, m)
	isNormal, e2 := model.Normal(x, index, m)
	with, e3 := model.Set(x, index, m, f)
	settled, e4 := model.Settle(x, index, m)
	for i, e := range []api.Errno{e1, e2, e3, e4} {
		if e != api.ErrArg {
			t.Errorf("%s, index %d: call %d tells error %d", what, index, i, e)
		}
	}
	if isTyped || isNormal || told(with) != "{}" || told(settled) != "{}" {
		t.Errorf("%s, index %d: more than an error: %v, %v, %s, %s", what, index, isTyped, isNormal, told(with), told(settled))
	}
}

// messagesBeside are typed and not typed: an index or a table that is refused is so whatever the message is.
func messagesBeside() []api.Msg {
	return []api.Msg{msg(), msg(field(1, num(5))), msg(field(1, num(1<<40))), msg(field(2), field(1)), unknown(varint(0, 0))}
}

func TestErrArgOfIndices(t *testing.T) {
	for _, m := range messagesBeside() {
		for _, index := range []int{-1, 0, 2, 3, 128, math.MinInt, math.MaxInt} {
			refused(t, "E, M", em(), index, m, field(1, num(1)))
		}
		refused(t, "no types", tableOf(), 0, m, field(1, num(1)))
		for _, index := range []int{-1, 0, 3, 4} {
			refused(t, "E, W, V", wide(), index, m, field(2, num(1)))
		}
	}
	lookAt(t, em(), 1, msg(), normal)
	lookAt(t, wide(), 1, msg(), normal)
	lookAt(t, wide(), 2, msg(), normal)
}

func TestErrArgOfTables(t *testing.T) {
	for _, x := range samples.WrongTables() {
		for _, m := range messagesBeside() {
			for index := -1; index < len(x.Table.Types)+1; index++ {
				refused(t, x.What, x.Table, index, m, field(1, num(1)))
			}
		}
	}
}

// TestP8_1Single has one value of each kind in fields of each label that has just one.
func TestP8_1Single(t *testing.T) {
	for kind := api.Bool; kind <= api.Message; kind++ {
		good, bad := values(kind)
		for _, label := range []int{api.Plain, api.Optional, api.Member} {
			if label == api.Plain && kind == api.Message {
				continue
			}
			x := single(kind, label, 0)
			look := func(want int, l ...api.Val) { t.Helper(); lookAt(t, x, around, msg(field(number, l...)), want) }
			look(other)
			for i, v := range good {
				want := normal
				if i == 0 && label == api.Plain {
					want = typed
				}
				look(want, v)
				look(other, v, v)
				look(other, v, v, v)
				lookAt(t, x, around, msg(api.Field{Number: number, Keys: []api.Val{num(0)}, Vals: []api.Val{v}}), other)
				lookAt(t, x, around, msg(api.Field{Number: number, Keys: []api.Val{}, Vals: []api.Val{v}}), want)
			}
			for _, v := range bad {
				look(other, v)
			}
		}
	}
}

// TestP8_1Lists has any number of values.
func TestP8_1Lists(t *testing.T) {
	for kind := api.Bool; kind <= api.Message; kind++ {
		good, bad := values(kind)
		for _, label := range []int{api.Repeated, api.Packed} {
			if label == api.Packed && (kind == api.String || kind == api.Bytes || kind == api.Message) {
				continue
			}
			x := single(kind, label, 0)
			look := func(want int, l ...api.Val) { t.Helper(); lookAt(t, x, around, msg(field(number, l...)), want) }
			look(typed)
			look(normal, good...)
			look(normal, append(slices.Clone(good), good...)...) // not rising, and some twice
			look(normal, slices.Repeat(good[:1], 300)...)
			for _, v := range good {
				look(normal, v)
				lookAt(t, x, around, msg(api.Field{Number: number, Keys: []api.Val{num(0)}, Vals: []api.Val{v}}), other)
			}
			lookAt(t, x, around, msg(api.Field{Number: number, Keys: []api.Val{num(0)}}), other)
			for _, v := range bad {
				look(other, v)
				look(other, append(slices.Clone(good), v)...)
				look(other, append([]api.Val{v}, good...)...)
			}
		}
	}
}

// TestP8_1Keys has keys of each kind, with values of a kind.
func TestP8_1Keys(t *testing.T) {
	for _, key := range []int{api.Bool, api.Int32, api.Int64, api.Uint32, api.Uint64, api.Sint32, api.Sint64, api.Fixed32, api.Fixed64, api.Sfixed32, api.Sfixed64, api.String} {
		x := single(api.Int32, api.Map, key)
		look := func(want int, keys ...api.Val) {
			t.Helper()
			lookAt(t, x, around, msg(api.Field{Number: number, Keys: keys, Vals: make([]api.Val, len(keys))}), want)
		}
		good := rising(key)
		_, bad := values(key)
		look(typed)
		look(normal, good...)
		for i, k := range good {
			look(normal, k)
			look(other, k, k)
			look(other, append(slices.Clone(good), k)...)
			for _, below := range good[:i] {
				look(normal, below, k)
				look(other, k, below)
				look(other, below, k, below)
			}
		}
		for _, k := range bad {
			look(other, k)
			look(other, append(slices.Clone(good), k)...)
			look(other, append([]api.Val{k}, good...)...)
		}
	}
}

// TestP8_1Maps has values of each kind, and keys more and fewer than there are values.
func TestP8_1Maps(t *testing.T) {
	for kind := api.Bool; kind <= api.Message; kind++ {
		good, bad := values(kind)
		x := single(kind, api.Map, api.Uint32)
		look := func(want int, l ...api.Val) {
			t.Helper()
			f := field(number, l...)
			for i := range l {
				f.Keys = append(f.Keys, num(int64(10*i)))
			}
			lookAt(t, x, around, msg(f), want)
			f.Keys = append(f.Keys, num(10000))
			lookAt(t, x, around, msg(f), other)
			if len(l) > 0 {
				f.Keys = f.Keys[:len(l)-1]
				lookAt(t, x, around, msg(f), other)
			}
		}
		look(typed)
		look(normal, good...)
		for _, v := range good {
			look(normal, v)
			look(normal, v, v)
			lookAt(t, x, around, msg(field(number, v)), other)
		}
		for _, v := range bad {
			look(other, v)
			look(other, append(slices.Clone(good), v)...)
			look(other, append([]api.Val{v}, good...)...)
		}
	}
}

// TestP8_1Numbers has fields that do not rise, that are there twice, or that the type has not.
func TestP8_1Numbers(t *testing.T) {
	one := func(n int) api.Field {
		if n == 3 {
			return field(n, in(msg()))
		}
		return field(n, num(1))
	}
	look := func(want int, l ...int) {
		t.Helper()
		var m api.Msg
		for _, n := range l {
			m.Fields = append(m.Fields, one(n))
		}
		lookAt(t, em(), 1, m, want)
		lookAt(t, em(), 1, msg(field(3, in(m))), want)
	}
	for _, l := range [][]int{{}, {1}, {2}, {3}, {1, 2}, {1, 3}, {2, 3}, {1, 2, 3}} {
		look(normal, l...)
	}
	for _, l := range [][]int{{2, 1}, {3, 1}, {3, 2}, {1, 3, 2}, {2, 1, 3}, {3, 2, 1}, {1, 1}, {2, 2}, {3, 3}, {1, 1, 2}, {1, 2, 2}, {1, 2, 1}, {1, 2, 3, 3}} {
		look(other, l...)
	}
	for _, n := range []int{0, -1, 4, 5, api.MaxNumber, api.MaxNumber + 1, 1<<32 + 1, math.MinInt, math.MaxInt} {
		look(other, n)
		look(other, 1, n)
		look(other, n, 3)
		lookAt(t, em(), 1, msg(field(n)), other)
	}
	lookAt(t, wide(), 2, msg(field(8, num(1))), other) // a reserved number
	lookAt(t, wide(), 1, msg(field(api.MaxNumber, str("a"))), normal)
	lookAt(t, wide(), 1, msg(field(api.MaxNumber-1, str("a"))), other)
}

func TestP8_1Oneofs(t *testing.T) {
	a1, a2, b1, b2 := field(11, num(0)), field(13, in(msg())), field(12, in(msg())), field(14, str(""))
	for _, l := range [][]api.Field{{a1}, {a2}, {b1}, {b2}, {a1, b1}, {a1, b2}, {b1, a2}, {a2, b2}} {
		lookAt(t, wide(), 1, msg(l...), normal)
		lookAt(t, wide(), 1, msg(field(8, in(msg(l...)))), normal)
	}
	for _, l := range [][]api.Field{{a1, a2}, {b1, b2}, {a1, b1, a2}, {a1, b1, b2}, {b1, a2, b2}, {a1, a2, b2}, {a1, b1, a2, b2}} {
		lookAt(t, wide(), 1, msg(l...), other)
		lookAt(t, wide(), 1, msg(field(5, in(msg(field(5, in(msg(l...))))))), other)
	}
}

// TestP8_1ManyOneofs has as many oneofs as there can be.
func TestP8_1ManyOneofs(t *testing.T) {
	x := messageOf("M")
	var m api.Msg
	for i := range api.MaxFields {
		x.Oneofs = append(x.Oneofs, fmt.Sprint("o", i))
		x.Fields = append(x.Fields, api.FieldType{Name: fmt.Sprint("f", i), Number: i + 1, Kind: api.Bool, Label: api.Member, Oneof: i})
		m.Fields = append(m.Fields, field(i+1, num(0)))
	}
	lookAt(t, tableOf(x), 0, m, normal)
	one := messageOf("N", slices.Clone(x.Fields)...)
	one.Oneofs = []string{"o"}
	for i := range one.Fields {
		one.Fields[i].Oneof = 0
	}
	lookAt(t, tableOf(one), 0, m, other)
	lookAt(t, tableOf(one), 0, msg(m.Fields[127]), normal)
	lookAt(t, tableOf(one), 0, msg(m.Fields[0], m.Fields[127]), other)
}

func TestP8_1Unknown(t *testing.T) {
	good := []api.Entry{
		varint(4, 0), varint(4, math.MaxUint64), varint(api.MaxNumber, 1), chunk(9, ""), chunk(9, "\xff\x00"), chunk(1, "taken by none"), varint(3, 1),
		{Number: 5, Kind: api.Fix32, N: 1<<32 - 1}, {Number: 5, Kind: api.Fix64, N: math.MaxUint64}, {Number: 1, Kind: api.Fix32}, {Number: 3, Kind: api.Fix64, B: []byte{}},
	}
	bad := []api.Entry{
		varint(0, 1), varint(-1, 1), varint(api.MaxNumber+1, 1), varint(math.MinInt, 1), varint(math.MaxInt, 1),
		{Number: 9, Kind: 3}, {Number: 9, Kind: 4}, {Number: 9, Kind: 6}, {Number: 9, Kind: 7}, {Number: 9, Kind: 8}, {Number: 9, Kind: -1}, {Number: 1, Kind: math.MaxInt},
		{Number: 9, Kind: api.Fix32, N: 1 << 32}, {Number: 9, Kind: api.Fix32, N: math.MaxUint64}, {Number: 9, Kind: api.Chunk, N: 1}, {Number: 9, Kind: api.Chunk, N: 1, B: []byte("a")},
		{Number: 9, B: []byte{0}}, {Number: 9, Kind: api.Fix64, B: []byte{0}}, {Number: 9, Kind: api.Fix32, B: []byte{0}},
	}
	lookAt(t, em(), 1, unknown(good...), normal)
	lookAt(t, em(), 1, unknown(append(slices.Clone(good), good...)...), normal)
	for _, x := range good {
		lookAt(t, em(), 1, unknown(x), normal)
	}
	for _, x := range bad {
		lookAt(t, em(), 1, unknown(x), other)
		lookAt(t, em(), 1, unknown(append(slices.Clone(good), x)...), other)
		lookAt(t, em(), 1, unknown(append([]api.Entry{x}, good...)...), other)
		lookAt(t, em(), 1, msg(field(3, in(unknown(x)))), other)
	}
}
