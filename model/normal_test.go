package model_test

import (
	"math"
	"testing"

	"cartouche/api"
	"cartouche/samples"
)

// TestP8_1Defaults has the default of each kind: it is not told in a Plain field, and told in all others.
func TestP8_1Defaults(t *testing.T) {
	for kind := api.Bool; kind <= api.Enum; kind++ {
		var v api.Val
		lookAt(t, single(kind, api.Plain, 0), around, msg(field(number, v)), typed)
		lookAt(t, single(kind, api.Plain, 0), around, msg(field(number, api.Val{B: []byte{}, M: []api.Msg{}})), typed)
		lookAt(t, single(kind, api.Plain, 0), around, msg(), normal)
		lookAt(t, single(kind, api.Optional, 0), around, msg(field(number, v)), normal)
		lookAt(t, single(kind, api.Member, 0), around, msg(field(number, v)), normal)
		lookAt(t, single(kind, api.Repeated, 0), around, msg(field(number, v)), normal)
		lookAt(t, single(kind, api.Map, api.Bool), around, msg(pairs(number, num(0), v)), normal)
	}
	for _, label := range []int{api.Optional, api.Member, api.Repeated} {
		lookAt(t, single(api.Message, label, 0), around, msg(field(number, in(msg()))), normal)
	}
	lookAt(t, single(api.Message, api.Map, api.Bool), around, msg(pairs(number, num(0), in(msg()))), normal)
}

// TestP8_1NoughtsBelow has floats that are nought with a sign: their bits are not the number 0.
func TestP8_1NoughtsBelow(t *testing.T) {
	lookAt(t, single(api.Float, api.Plain, 0), around, msg(field(number, api.Val{N: uint64(math.Float32bits(float32(math.Copysign(0, -1))))})), normal)
	lookAt(t, single(api.Double, api.Plain, 0), around, msg(field(number, api.Val{N: math.Float64bits(math.Copysign(0, -1))})), normal)
}

// TestP8_1Taken has an entry of each wire kind, of the number of a field of each kind and label.
func TestP8_1Taken(t *testing.T) {
	wireKinds := []int{api.Varint, api.Fix64, api.Chunk, api.Fix32}
	for kind := api.Bool; kind <= api.Message; kind++ {
		for label := api.Plain; label <= api.Map; label++ {
			if !samples.CanBe(kind, label) {
				continue
			}
			key := 0
			if label == api.Map {
				key = api.Int32
			}
			for _, w := range wireKinds {
				want := normal
				switch {
				case label == api.Map && w == api.Chunk, label != api.Map && w == samples.Wire(kind):
					want = typed
				case w == api.Chunk && (label == api.Repeated || label == api.Packed):
					want = typed
				}
				x := single(kind, label, key)
				lookAt(t, x, around, unknown(api.Entry{Number: number, Kind: w}), want)
				lookAt(t, x, around, unknown(api.Entry{Number: number + 1, Kind: w}, api.Entry{Number: number - 1, Kind: w}), normal)
				lookAt(t, x, around, unknown(api.Entry{Number: number + 1, Kind: w}, api.Entry{Number: number, Kind: w}), want)
			}
		}
	}
	lookAt(t, wide(), 2, unknown(varint(7, 1), chunk(8, "a"), varint(9, 0)), normal) // reserved numbers
}

// wraps tells a message of the type 1 of the table wide around one of the type 1, and around one of the type 2, in each way.
func wraps() (ofW, ofV []func(api.Msg) api.Msg) {
	w := func(number int) func(api.Msg) api.Msg {
		return func(m api.Msg) api.Msg { return msg(field(number, in(m))) }
	}
	ofV = []func(api.Msg) api.Msg{
		w(5), w(13),
		func(m api.Msg) api.Msg { return msg(pairs(9, str("a"), in(m))) },
		func(m api.Msg) api.Msg { return msg(pairs(9, str(""), in(msg()), str("z"), in(m))) },
		func(m api.Msg) api.Msg { return msg(pairs(9, str(""), in(m), str("z"), in(msg()))) },
		func(m api.Msg) api.Msg { return msg(field(8, in(msg()), in(msg(field(5, in(m)))))) },
	}
	ofW = []func(api.Msg) api.Msg{
		func(m api.Msg) api.Msg { return m },
		w(8), w(12),
		func(m api.Msg) api.Msg { return msg(field(8, in(m), in(msg()))) },
		func(m api.Msg) api.Msg { return msg(field(8, in(msg()), in(m))) },
	}
	for _, v := range ofV {
		ofW = append(ofW, func(m api.Msg) api.Msg { return v(msg(field(5, in(m)))) })
	}
	return ofW, ofV
}

// TestP8_1Within has what is normal, what is typed alone, and what is not, at every place where a message can stand, and within one another.
func TestP8_1Within(t *testing.T) {
	ofW, ofV := wraps()
	forW := map[int][]api.Msg{
		normal: {msg(), msg(field(1, num(-1))), msg(field(4, num(0))), unknown(varint(2, 0)), msg(field(5, in(msg())))},
		typed:  {msg(field(1, num(0))), msg(field(2, str(""))), msg(field(3, num(0))), msg(field(6)), msg(field(7)), msg(field(8)), msg(field(9)), msg(field(10)), unknown(varint(1, 1)), unknown(chunk(9, "")), msg(field(api.MaxNumber, str("")))},
		other:  {msg(field(1)), msg(field(3, num(1))), msg(field(15, num(1))), unknown(varint(0, 0)), msg(field(9, in(msg()))), msg(field(5, in(msg(field(1, num(1))))))},
	}
	forV := map[int][]api.Msg{
		normal: {msg(), msg(field(2, num(1))), unknown(varint(5, 0)), msg(field(5, in(msg())))},
		typed:  {msg(field(2, num(0))), unknown(chunk(5, "")), unknown(varint(9, 0), api.Entry{Number: 2, Kind: api.Fix32})},
		other:  {msg(field(1, num(1))), msg(field(2, num(1<<32))), msg(field(5)), unknown(api.Entry{Number: 2, Kind: 4})},
	}
	for want := range 3 {
		for _, outer := range ofW {
			for _, w := range ofW {
				for _, m := range forW[want] {
					lookAt(t, wide(), 1, outer(w(m)), want)
				}
			}
			for _, v := range ofV {
				for _, m := range forV[want] {
					lookAt(t, wide(), 1, outer(v(m)), want)
				}
			}
		}
	}
}

// TestP8_1AnyDepth sees that no depth is too great for a message to be typed.
func TestP8_1AnyDepth(t *testing.T) {
	for _, c := range []struct {
		m    api.Msg
		want int
	}{{msg(field(1, num(1))), normal}, {msg(field(1, num(0))), typed}, {msg(field(1)), other}} {
		m := c.m
		for range 3 * api.MaxDepth {
			m = msg(field(3, in(m)))
			lookAt(t, em(), 1, m, c.want)
		}
	}
}
