package samples

import (
	"math"

	"cartouche/api"
)

// The least and the greatest number of 32 bits with a sign.
const (
	low  = -1 << 31
	high = 1<<31 - 1
)

// Values tells values of a kind (an enum's by Symbols, a message's by the type Inner of what Single tells): typed ones (the default first, those of numbers rising behind it), and others.
func Values(kind int) (good, bad []api.Val) {
	switch kind {
	case api.String:
		good = []api.Val{Str(""), Str("\x00"), Str("a"), Str("ab"), Str("b"), Str("\u00e9\ufffd"), Str("\U0010ffff")}
		bad = []api.Val{Str("\xff"), Str("a\xc3"), Str("\xed\xa0\x80"), Str("\xc0\x80"), Str("\xf4\x90\x80\x80"), {N: 1}, {N: 1, B: []byte("a")}}
	case api.Bytes:
		good = []api.Val{Str(""), Str("\x00"), Str("a"), Str("\xff"), Str("\xed\xa0\x80")}
		bad = []api.Val{{N: 1}, {N: 1 << 63, B: []byte("a")}}
	case api.Message:
		return messages()
	default:
		good, bad = numbers(kind)
		bad = append(bad, api.Val{B: []byte{0}}, api.Val{N: 1, B: []byte("a")})
	}
	return good, append(bad, In(Msg()), In(Msg(), Msg()), api.Val{N: 1, M: []api.Msg{{}}})
}

func messages() (good, bad []api.Val) {
	five := Msg(Field(1, Num(5)))
	good = []api.Val{In(Msg()), In(five), {B: []byte{}, M: []api.Msg{Unknown(Varint(9, 1))}}}
	bad = []api.Val{
		{}, {M: []api.Msg{}}, In(five, five), In(Msg(), Msg()), {N: 1, M: []api.Msg{five}}, {B: []byte{0}, M: []api.Msg{five}}, Num(7), Str("a"),
		In(Msg(Field(1, Num(1<<31)))), In(Msg(Field(2, Num(1)))), In(Unknown(Varint(0, 0))), In(Msg(Field(1, In(Msg())))),
	}
	return good, bad
}

func numbers(kind int) (good, bad []api.Val) {
	top := api.Val{N: math.MaxUint64}
	switch kind {
	case api.Bool:
		return []api.Val{Num(0), Num(1)}, []api.Val{Num(2), Num(256), Num(1 << 32), top}
	case api.Int32, api.Sint32, api.Sfixed32:
		return []api.Val{Num(0), Num(low), Num(-1), Num(1), Num(high)}, []api.Val{Num(high + 1), Num(low - 1), Num(1<<32 - 1), Num(math.MaxInt64), Num(math.MinInt64)}
	case api.Int64, api.Sint64, api.Sfixed64:
		return []api.Val{Num(0), Num(math.MinInt64), Num(-1), Num(1), Num(math.MaxInt64)}, nil
	case api.Uint32, api.Fixed32, api.Float:
		return []api.Val{Num(0), Num(1), Num(1 << 31), Num(1<<32 - 1)}, []api.Val{Num(1 << 32), Num(-1), Num(math.MinInt64)}
	case api.Uint64, api.Fixed64, api.Double:
		return []api.Val{Num(0), Num(1), Num(1 << 62), Num(math.MinInt64), top}, nil
	}
	return []api.Val{Num(0), Num(5), Num(high)}, []api.Val{Num(1), Num(4), Num(6), Num(high - 1), Num(high + 1), Num(1 << 32), Num(1<<32 + 5), Num(-1), Num(low)}
}

// Wire tells a kind's wire kind by the document's words, a second time beside scalar.Wire.
func Wire(kind int) int {
	switch kind {
	case api.Fixed32, api.Sfixed32, api.Float:
		return api.Fix32
	case api.Fixed64, api.Sfixed64, api.Double:
		return api.Fix64
	case api.String, api.Bytes, api.Message:
		return api.Chunk
	}
	return api.Varint
}

// KeyKinds are the kinds that a map's keys may have.
func KeyKinds() []int {
	return []int{api.Bool, api.Int32, api.Int64, api.Uint32, api.Uint64, api.Sint32, api.Sint64, api.Fixed32, api.Fixed64, api.Sfixed32, api.Sfixed64, api.String}
}

// Rising tells typed keys of a kind in order.
func Rising(kind int) []api.Val {
	good, _ := Values(kind)
	if good[1].N > math.MaxInt64 { // a signed kind: 0 stands behind those below it
		good[0], good[1], good[2] = good[1], good[2], good[0]
	}
	return good
}
