package vm_test

import (
	"bytes"
	"math"
	"strings"
	"testing"

	"cartouche/api"
	"cartouche/plan"
	"cartouche/samples"
	"cartouche/vm"
)

func TestP15_2Examples(t *testing.T) {
	for _, p := range both(t, lowered(t, em())) {
		lookAtWritten(t, p, 1, joined(msg(field(1, num(0))), varint(9, 1)), []byte{72, 1})
		lookAtRefused(t, p, 1, msg(field(1)), api.ErrType)
	}
}

// TestP15_2Refused: a program that is not valid is told ahead of an index that is none, and both ahead of a message that is too deep, and that ahead of all steps.
func TestP15_2Refused(t *testing.T) {
	good := writing(t, "Val Bool")
	wrong := writing(t, "Val Bool")
	wrong.Blocks[symbols].Rows[0].To = 1
	deep := samples.Nested(1, 16, msg())
	for _, m := range []api.Msg{msg(), deep} {
		for _, index := range []int{tried, symbols, inner, 3, -1, math.MinInt, math.MaxInt} {
			lookAtRefused(t, wrong, index, m, api.ErrProgram)
			if index != tried && index != inner {
				lookAtRefused(t, good, index, m, api.ErrArg)
			}
		}
	}
	lookAtRefused(t, plan.Program{}, 0, deep, api.ErrArg)
	lookAtRefused(t, good, tried, deep, api.ErrTooDeep)
	lookAtRefused(t, good, tried, samples.Nested(1, 15, msg()), api.ErrType)
}

// written is a message, and its bytes.
type written struct {
	ahead string
	m     api.Msg
	want  []byte
}

func lookAtWrites(t *testing.T, l []written) {
	t.Helper()
	for _, x := range l {
		lookAtWritten(t, writing(t, x.ahead), tried, x.m, x.want)
	}
}

// refused is a message, and why it can't be written.
type refused struct {
	ahead string
	m     api.Msg
	want  api.Errno
}

func lookAtRefusals(t *testing.T, l []refused) {
	t.Helper()
	for _, x := range l {
		lookAtRefused(t, writing(t, x.ahead), tried, x.m, x.want)
	}
}

// TestP15_2Has: which field is the machine's, and where it goes.
func TestP15_2Has(t *testing.T) {
	zero, one := msg(field(1, num(0))), msg(field(1, num(1)))
	const plain, kept = "Has 1 2 Bool; Put 8; Put 16", "Has 1 2 0; Put 8; Put 16"
	lookAtWrites(t, []written{
		{plain, msg(), []byte{16}}, {plain, one, []byte{8, 16}}, {plain, zero, []byte{16}}, {plain, msg(field(1)), []byte{8, 16}}, {plain, msg(field(1, num(0), num(0))), []byte{8, 16}}, {plain, msg(field(2, num(1))), []byte{16}}, {plain, msg(pairs(1, num(1), num(0))), []byte{16}},
		{kept, msg(), []byte{16}}, {kept, one, []byte{8, 16}}, {kept, zero, []byte{8, 16}}, {kept, msg(field(1)), []byte{8, 16}}, {kept, msg(field(2)), []byte{16}},
		// The default has nothing beside.
		{plain, msg(field(1, api.Val{B: []byte{0}})), []byte{8, 16}}, {plain, msg(field(1, in(msg()))), []byte{8, 16}}, {plain, msg(field(1, api.Val{B: []byte{}, M: []api.Msg{}})), []byte{16}},
		// The first field of that number counts, wherever it stands.
		{"Has 1 1 0; Val Int32", msg(field(2, num(2)), field(1, num(1)), field(1, num(9))), []byte{1}}, {"Has 2 1 0; Val Int32", msg(field(3), field(2, num(2)), field(1, num(1))), []byte{2}},
		// What is not there leaves the field of before; where it goes elsewhere, it is its own.
		{"Has 1 1 0; Has 2 2 0; Val Int32", msg(field(1, num(7))), []byte{7}}, {"Has 1 1 0; Has 2 2 0; Val Int32", msg(field(1, num(7)), field(2, num(8))), []byte{8}}, {"Has 1 2 Int32; Put 8; Val Int32", zero, []byte{0}}, {"Has 1 1 0; Has 2 3 Int32; Put 8; Val Int32", msg(field(1, num(7)), field(2, num(0))), []byte{0}},
		{"Has 1 1 0; Val Int32; Val Int32; Put 8; Val Int32", msg(field(1, num(7))), []byte{7, 7, 8, 7}}, {"Has 1 4 0; Put 8; Has 2 3 0; Put 16; Put 24", msg(field(2)), []byte{24}}, {"Has 1 3 0; Put 8; Has 2 4 0; Put 16; Put 24", msg(field(2)), []byte{16, 24}},
	})
	for kind := api.Bool; kind <= api.Enum; kind++ {
		p := writing(t, "Has 1 2 "+samples.Kinds()[kind-1]+"; Put 8; Put 16")
		good, _ := samples.Values(kind)
		for i, v := range good {
			want := []byte{8, 16}
			if i == 0 {
				want = want[1:]
			}
			lookAtWritten(t, p, tried, msg(field(1, v)), want)
		}
	}
	lookAtRefusals(t, []refused{{"Has 1 1 0; Val Bool", msg(), api.ErrType}, {"Has 1 1 0; Val Bool", msg(field(2, num(1))), api.ErrType}})
}

func TestP15_2PutVal(t *testing.T) {
	lookAtWrites(t, []written{{"Put 8", msg(), []byte{8}}, {"Put 800", msg(), []byte{160, 6}}, {"Put 4294967293; Put 9", msg(), []byte{253, 255, 255, 255, 15, 9}}, {"Put 8", msg(field(1), field(1)), []byte{8}}})
	var pairsOfKinds []written
	for kind := api.Bool; kind <= api.Enum; kind++ {
		name := samples.Kinds()[kind-1]
		good, bad := samples.Values(kind)
		for _, v := range good {
			pairsOfKinds = append(pairsOfKinds, written{"Has 1 1 0; Val " + name, msg(field(1, v)), bare(kind, v)}, written{"Has 1 1 0; PutVal 800 " + name, msg(field(1, v)), all([]byte{160, 6}, bare(kind, v))})
		}
		for _, v := range bad {
			want := api.ErrRange
			switch {
			case kind == api.String && v.N == 0 && len(v.M) == 0:
				want = api.ErrText
			case kind == api.Enum && v.N < 1<<31 && len(v.B)+len(v.M) == 0: // symbols are not asked for
				lookAtWritten(t, writing(t, "Has 1 1 0; Val Enum"), tried, msg(field(1, v)), digits(v.N))
				continue
			}
			lookAtRefusals(t, []refused{{"Has 1 1 0; Val " + name, msg(field(1, v)), want}, {"Has 1 1 0; PutVal 8 " + name, msg(field(1, v)), want}})
		}
		for _, m := range []api.Msg{msg(), msg(field(2, good[0])), msg(field(1)), msg(field(1, good[0], good[0])), msg(field(1, num(-1), num(-1)))} {
			lookAtRefusals(t, []refused{{"Has 1 1 0; Val " + name, m, api.ErrType}, {"Has 1 1 0; PutVal 8 " + name, m, api.ErrType}})
		}
	}
	lookAtWrites(t, pairsOfKinds)
	lookAtWrites(t, []written{{"Has 1 1 0; Val Bool", msg(pairs(1, num(7), num(1))), []byte{1}}})
}

func TestP15_2Sub(t *testing.T) {
	one := msg(field(1, num(1)))
	const steps = "Has 1 1 0; Sub 2"
	lookAtWrites(t, []written{
		{steps, msg(field(1, in(msg()))), []byte{0}}, {steps, msg(field(1, in(one))), []byte{2, 8, 1}}, {"Has 1 1 0; Sub 2; Sub 2; Put 8", msg(field(1, in(one))), []byte{2, 8, 1, 2, 8, 1, 8}}, {steps, msg(field(1, in(msg(field(2, in(one)))))), []byte{4, 18, 2, 8, 1}},
		{steps, msg(field(1, in(joined(msg(field(9, num(1))), varint(7, 1))))), []byte{2, 56, 1}}, {steps, msg(field(1, api.Val{N: 5, B: []byte("a"), M: []api.Msg{one}})), []byte{2, 8, 1}}, {steps, msg(pairs(1, num(1), in(one))), []byte{2, 8, 1}},
		// The field of the one around is its own: within, none is at first, and behind it is the same.
		{"Has 1 1 0; Sub 2; Has 2 4 0; Val Bool; Sub 2", msg(field(1, in(one))), []byte{2, 8, 1, 2, 8, 1}},
	})
	lookAtRefusals(t, []refused{
		{"Sub 2", msg(), api.ErrType}, {steps, msg(field(2, in(one))), api.ErrType}, {steps, msg(field(1)), api.ErrType}, {steps, msg(field(1, in(one), in(one))), api.ErrType}, {steps, msg(field(1, num(1))), api.ErrType}, {steps, msg(field(1, str("a"))), api.ErrType}, {steps, msg(field(1, in(one, one))), api.ErrType}, {steps, msg(field(1, in())), api.ErrType},
		{steps, msg(field(1, in(msg(field(1, num(1<<31)))))), api.ErrRange}, {steps, msg(field(1, in(msg(field(1))))), api.ErrType}, {steps, msg(field(1, in(unknown(varint(0, 1))))), api.ErrNumber}, {"Has 1 1 0; Sub 0", msg(field(1, in(msg()))), api.ErrType},
	})
}

func TestP15_2Each(t *testing.T) {
	one := msg(field(1, num(1)))
	lookAtWrites(t, []written{
		{"Has 1 1 0; Each 8 Bool 0", msg(field(1)), nil}, {"Has 1 1 0; Each 8 Bool 0", msg(field(1, num(1), num(0))), []byte{8, 1, 8, 0}}, {"Has 1 1 0; Each 800 String 0", msg(field(1, str("a"), str(""), str("b"))), []byte{160, 6, 1, 97, 160, 6, 0, 160, 6, 1, 98}}, {"Has 1 1 0; Each 8 Enum 1", msg(field(1, num(4), num(0))), []byte{8, 4, 8, 0}},
		{"Has 1 1 0; Each 10 Message 2", msg(field(1)), nil}, {"Has 1 1 0; Each 10 Message 2", msg(field(1, in(msg()), in(one), in(msg()))), []byte{10, 0, 10, 2, 8, 1, 10, 0}}, {"Has 1 1 0; Each 10 Message 2; Each 18 Message 2; Put 8", msg(field(1, in(one), in(msg()))), []byte{10, 2, 8, 1, 10, 0, 18, 2, 8, 1, 18, 0, 8}},
		{"Has 1 1 0; Each 10 Message 2; Sub 2", msg(field(1, in(one))), []byte{10, 2, 8, 1, 2, 8, 1}}, {"Has 1 1 0; Each 8 Bool 0", msg(pairs(1, num(5), num(1), num(6), num(0))), []byte{8, 1, 8, 0}}, {"Has 1 1 0; Each 10 Message 2", msg(field(1, in(msg(field(2, in(one)))))), []byte{10, 4, 18, 2, 8, 1}},
		{"Has 1 2 0; Each 10 Message 0; Put 8", msg(field(1, in(msg(field(1, in(msg()), in(msg())))), in(msg()))), []byte{10, 7, 10, 1, 8, 10, 1, 8, 8, 10, 1, 8, 8}},
	})
	lookAtRefusals(t, []refused{
		{"Each 8 Bool 0", msg(), api.ErrType}, {"Each 10 Message 2", msg(), api.ErrType}, {"Has 1 1 0; Each 8 Bool 0", msg(field(2)), api.ErrType}, {"Has 1 1 0; Each 8 Bool 0", msg(field(1, num(1), num(2), in(one))), api.ErrRange}, {"Has 1 1 0; Each 8 String 0", msg(field(1, str("a"), str("\xff"), num(1))), api.ErrText},
		{"Has 1 1 0; Each 8 String 0", msg(field(1, str("a"), num(1), str("\xff"))), api.ErrRange}, {"Has 1 1 0; Each 10 Message 2", msg(field(1, in(one), num(1))), api.ErrType}, {"Has 1 1 0; Each 10 Message 2", msg(field(1, in(one), in(one, one))), api.ErrType}, {"Has 1 1 0; Each 10 Message 2", msg(field(1, in(one), in(msg(field(1, num(1<<40)))), in())), api.ErrRange},
		{"Has 1 1 0; Each 10 Message 2", msg(field(1, in(one), in(), in(msg(field(1, num(1<<40)))))), api.ErrType},
	})
}

func TestP15_2Run(t *testing.T) {
	lookAtWrites(t, []written{
		{"Has 1 1 0; Run 10 Bool", msg(field(1)), nil}, {"Has 1 1 0; Run 10 Bool", msg(field(1, num(1), num(0))), []byte{10, 2, 1, 0}}, {"Has 1 1 0; Run 802 Fixed32", msg(field(1, num(1))), []byte{162, 6, 4, 1, 0, 0, 0}}, {"Has 1 1 0; Run 8 Enum", msg(field(1, num(4))), []byte{8, 1, 4}}, {"Has 1 1 0; Run 10 Sint64; Run 10 Int64", msg(field(1, num(-1))), all([]byte{10, 1, 1, 10, 10}, longest)},
		{"Has 1 1 0; Run 10 Bool", msg(pairs(1, num(9), num(1))), []byte{10, 1, 1}}, {"Has 1 1 0; Run 10 Int32", msg(field(1, make([]api.Val, 200)...)), all([]byte{10}, chunk(make([]byte, 200)))},
	})
	lookAtRefusals(t, []refused{{"Run 10 Bool", msg(), api.ErrType}, {"Has 1 1 0; Run 10 Bool", msg(field(2)), api.ErrType}, {"Has 1 1 0; Run 10 Bool", msg(field(1, num(1), num(2))), api.ErrRange}, {"Has 1 1 0; Run 10 Bool", msg(field(1, str("a"))), api.ErrRange}, {"Has 1 1 0; Run 10 Bool", msg(field(1, in(msg()))), api.ErrRange}})
}

func TestP15_2Pairs(t *testing.T) {
	one := msg(field(1, num(1)))
	lookAtWrites(t, []written{
		{"Has 1 1 0; Pairs 10 Bool Bool 0", msg(field(1)), nil}, {"Has 1 1 0; Pairs 10 Bool Bool 0", msg(pairs(1, num(1), num(0), num(0), num(1))), []byte{10, 4, 8, 1, 16, 0, 10, 4, 8, 0, 16, 1}}, {"Has 1 1 0; Pairs 800 String Fixed32 0", msg(pairs(1, str("a"), num(1))), []byte{160, 6, 8, 10, 1, 97, 21, 1, 0, 0, 0}},
		{"Has 1 1 0; Pairs 10 Fixed64 Double 0", msg(pairs(1, num(1), num(2))), []byte{10, 18, 9, 1, 0, 0, 0, 0, 0, 0, 0, 17, 2, 0, 0, 0, 0, 0, 0, 0}}, {"Has 1 1 0; Pairs 10 Sint32 Enum 1", msg(pairs(1, num(-1), num(4))), []byte{10, 4, 8, 1, 16, 4}},
		{"Has 1 1 0; Pairs 10 Bool Message 2", msg(field(1)), nil}, {"Has 1 1 0; Pairs 10 Bool Message 2", msg(pairs(1, num(0), in(one), num(1), in(msg()))), []byte{10, 6, 8, 0, 18, 2, 8, 1, 10, 4, 8, 1, 18, 0}}, {"Has 1 1 0; Pairs 10 String Message 2; Pairs 18 String Message 2; Put 8", msg(pairs(1, str("a"), in(msg()))), []byte{10, 5, 10, 1, 97, 18, 0, 18, 5, 10, 1, 97, 18, 0, 8}},
		{"Has 1 1 0; Pairs 10 Int32 Message 2; Put 8", msg(pairs(1, num(7), in(msg(field(2, in(one)))), num(7), in(one))), []byte{10, 8, 8, 7, 18, 4, 18, 2, 8, 1, 10, 6, 8, 7, 18, 2, 8, 1, 8}}, {"Has 1 1 0; Pairs 10 Bool Message 0", msg(field(1)), nil},
	})
	lone := api.Field{Number: 1, Keys: []api.Val{num(1)}}
	lookAtRefusals(t, []refused{
		{"Pairs 10 Bool Bool 0", msg(), api.ErrType}, {"Pairs 10 Bool Message 2", msg(), api.ErrType}, {"Has 1 1 0; Pairs 10 Bool Bool 0", msg(field(2)), api.ErrType}, {"Has 1 1 0; Pairs 10 Bool Bool 0", msg(field(1, num(1))), api.ErrType}, {"Has 1 1 0; Pairs 10 Bool Bool 0", msg(lone), api.ErrType}, {"Has 1 1 0; Pairs 10 Bool Message 2", msg(lone), api.ErrType},
		{"Has 1 1 0; Pairs 10 Bool Message 2", msg(field(1, in(one))), api.ErrType}, {"Has 1 1 0; Pairs 10 Bool Bool 0", msg(pairs(1, num(2), num(1))), api.ErrRange}, {"Has 1 1 0; Pairs 10 Bool Bool 0", msg(pairs(1, num(1), num(2))), api.ErrRange}, {"Has 1 1 0; Pairs 10 Bool String 0", msg(pairs(1, num(2), str("\xff"))), api.ErrRange}, {"Has 1 1 0; Pairs 10 Bool String 0", msg(pairs(1, num(1), str("\xff"), num(2), str(""))), api.ErrText},
		{"Has 1 1 0; Pairs 10 String Bool 0", msg(pairs(1, str("\xff"), num(2))), api.ErrText}, {"Has 1 1 0; Pairs 10 Bool Message 2", msg(pairs(1, num(2), num(1))), api.ErrRange}, {"Has 1 1 0; Pairs 10 Bool Message 2", msg(pairs(1, num(1), num(1))), api.ErrType}, {"Has 1 1 0; Pairs 10 Bool Message 2", msg(pairs(1, num(1), in(one), num(2), in())), api.ErrRange},
		{"Has 1 1 0; Pairs 10 Bool Message 2", msg(pairs(1, num(1), in(one, one))), api.ErrType}, {"Has 1 1 0; Pairs 10 Bool Message 2", msg(pairs(1, num(1), in(unknown(varint(0, 0))), num(2), in())), api.ErrNumber}, {"Has 1 1 0; Pairs 10 Bool Message 2", msg(pairs(1, num(2), in(unknown(varint(0, 0))))), api.ErrRange},
	})
}

func TestP15_2Rest(t *testing.T) {
	l := []api.Entry{varint(1, 300), text(2, "ab"), {Number: 3, Kind: api.Fix32, N: 1}, {Number: 4, Kind: api.Fix64, N: 2}, text(1, ""), varint(api.MaxNumber, 0)}
	b := all([]byte{8, 172, 2, 18, 2, 97, 98, 29, 1, 0, 0, 0, 33, 2, 0, 0, 0, 0, 0, 0, 0, 10, 0}, tag(api.MaxNumber, 0), []byte{0})
	lookAtWrites(t, []written{{"Rest", msg(), nil}, {"Rest", unknown(l...), b}, {"Rest; Put 8; Rest", unknown(l...), all(b, []byte{8}, b)}, {"Put 8", unknown(l...), []byte{8}}, {"Put 8", unknown(varint(0, 0)), []byte{8}}})
	lookAtRefusals(t, []refused{
		{"Rest", unknown(varint(1, 1), varint(0, 1)), api.ErrNumber}, {"Rest", unknown(varint(1<<29, 1)), api.ErrNumber}, {"Rest", unknown(api.Entry{Number: 1, Kind: 3}), api.ErrKind}, {"Rest", unknown(api.Entry{Number: 1, Kind: api.Fix32, N: 1 << 32}), api.ErrRange}, {"Rest", unknown(api.Entry{Number: 1, Kind: api.Chunk, N: 1}), api.ErrRange},
		{"Rest", unknown(api.Entry{Number: 1, B: []byte{1}}), api.ErrRange}, {"Rest", unknown(varint(1, 1), api.Entry{Number: 1, Kind: 3}, varint(0, 1)), api.ErrKind},
	})
}

// TestP15_2Depth: it is the message's own that is asked, whether it would be written or not.
func TestP15_2Depth(t *testing.T) {
	p := writing(t, "Has 2 2 0; Put 18; Sub 2")
	lookAtWritten(t, p, tried, samples.Nested(2, 15, msg(field(1, num(7)))), inside(2, 15, []byte{8, 7}))
	lookAtRefused(t, p, tried, samples.Nested(2, 16, msg()), api.ErrTooDeep)
	lookAtRefused(t, p, tried, samples.Nested(2, 1<<16-1, msg()), api.ErrTooDeep)
	deep := in(samples.Nested(2, 15, msg()))
	for _, f := range []api.Field{field(9, deep), {Number: 9, Keys: []api.Val{deep}}, field(2, in(msg()), deep), field(2, in(msg(), deep.M[0]))} {
		lookAtRefused(t, p, tried, msg(field(1, num(2)), f), api.ErrTooDeep)
		lookAtRefused(t, writing(t, "Rest"), tried, joined(msg(f), varint(0, 0)), api.ErrTooDeep)
	}
	lookAtWritten(t, writing(t, "Rest"), tried, msg(field(9, in(samples.Nested(2, 14, msg())))), nil)
}

// blob tells a field with bytes, so many in all with the tag of one byte and their number.
func blob(number, size int) api.Field {
	return field(number, api.Val{B: make([]byte, size-1-ahead(size-1))})
}

// ahead tells how many digits stand ahead of the bytes of a chunk that has so many in all.
func ahead(size int) int {
	n := 1
	for len(digits(uint64(size-n))) != n {
		n++
	}
	return n
}

// lookAtBound sees that messages are written up to the bound, and counted up to its own.
func lookAtBound(t *testing.T, what string, p plan.Program, sized func(size int) api.Msg) {
	t.Helper()
	for _, q := range both(t, p) {
		m := sized(api.MaxMessage)
		if b := mustWrite(t, q, m); len(b) != api.MaxMessage {
			t.Errorf("%s: %d bytes", what, len(b))
		}
		lookAtSize(t, q, tried, m, api.MaxMessage)
		m = sized(api.MaxMessage + 1)
		lookAtNoBytes(t, q, tried, m, api.ErrTooBig)
		lookAtSize(t, q, tried, m, api.MaxMessage+1)
		m = sized(api.MaxSize)
		lookAtNoBytes(t, q, tried, m, api.ErrTooBig)
		lookAtSize(t, q, tried, m, api.MaxSize)
		lookAtRefused(t, q, tried, sized(api.MaxSize+1), api.ErrTooBig)
	}
}

func mustWrite(t *testing.T, p plan.Program, m api.Msg) []byte {
	t.Helper()
	b, e := vm.Encode(p, tried, m)
	if e != api.OK {
		t.Errorf("%s\nEncode(%s): error %d", enc(p, tried), shortly(m), e)
	}
	return b
}

// TestP15_2TooBig goes past the bound by each step.
func TestP15_2TooBig(t *testing.T) {
	single := func(size int) api.Msg { return msg(blob(1, size)) }
	lookAtBound(t, "Val", writing(t, "Has 1 1 0; Put 10; Val Bytes"), single)
	lookAtBound(t, "PutVal", writing(t, "Has 1 1 0; PutVal 10 Bytes"), single)
	lookAtBound(t, "Each", writing(t, "Has 1 1 0; Each 10 Bytes 0"), single)
	lookAtBound(t, "Put", writing(t, "Has 1 1 0; Put 10; Val Bytes; Put 8"), func(size int) api.Msg { return single(size - 1) })
	rest := func(size int) api.Msg { return unknown(text(1, string(blob(1, size).Vals[0].B))) }
	lookAtBound(t, "Rest", writing(t, "Rest"), rest)
	lookAtBound(t, "Run", writing(t, "Rest; Has 1 2 0; Run 10 Fixed64"), func(size int) api.Msg {
		return api.Msg{Fields: []api.Field{field(1, num(1))}, Unknown: rest(size - 10).Unknown}
	})
	within := func(size int) api.Msg { return msg(field(1, in(rest(size-1-ahead(size-1))))) }
	lookAtBound(t, "Sub", writing(t, "Has 1 1 0; Put 10; Sub 2"), within)
	lookAtBound(t, "Each of messages", writing(t, "Has 1 1 0; Each 10 Message 2"), within)
	lookAtBound(t, "Pairs", writing(t, "Has 1 1 0; Pairs 10 Bool Bytes 0"), func(size int) api.Msg {
		outer := blob(1, size).Vals[0].B
		return msg(pairs(1, num(0), blob(1, len(outer)-2).Vals[0]))
	})
	lookAtBound(t, "Pairs of messages", writing(t, "Has 1 1 0; Pairs 10 Bool Message 2"), func(size int) api.Msg {
		outer := blob(1, size).Vals[0].B
		return msg(pairs(1, num(0), in(rest(len(blob(1, len(outer)-2).Vals[0].B)))))
	})
}

// TestP15_2First: the first error of a step, or ErrTooBig behind a step, whichever comes first.
func TestP15_2First(t *testing.T) {
	big := func(number int) api.Field { return blob(number, api.MaxMessage+1) }
	full := func(number int) api.Field { return blob(number, api.MaxMessage) }
	bad, wrong := field(2, num(2)), unknown(varint(0, 0))
	const both = "Has 1 1 0; Put 10; Val Bytes; Has 2 4 0; "
	for _, x := range []struct {
		ahead string
		m     api.Msg
		want  api.Errno
	}{
		// The step that goes past the bound ends ahead of the next one's error.
		{both + "Val Bool", msg(big(1), bad), api.ErrTooBig}, {both + "Val Bool", msg(full(1), bad), api.ErrRange}, {both + "Put 8; Val Bool", msg(full(1), bad), api.ErrTooBig}, {both + "PutVal 8 Bool", msg(full(1), bad), api.ErrTooBig}, {both + "PutVal 8 Bool", msg(blob(1, api.MaxMessage-1), bad), api.ErrRange},
		{"Has 1 1 0; Put 10; Val Bytes; Rest", joined(msg(big(1)), wrong.Unknown...), api.ErrTooBig}, {"Has 1 1 0; Put 10; Val Bytes; Rest", joined(msg(full(1)), wrong.Unknown...), api.ErrNumber}, {"Rest; Val Bool", unknown(text(1, strings.Repeat("a", 65533))), api.ErrTooBig}, {"Rest; Val Bool", unknown(text(1, strings.Repeat("a", 65532))), api.ErrType},
		// A step's own error comes ahead of what it has written.
		{"Has 1 1 0; Each 10 Bytes 0", msg(field(1, big(1).Vals[0], big(1).Vals[0], num(1))), api.ErrRange}, {"Has 1 1 0; Each 10 Bytes 0; Val Bool", msg(field(1, big(1).Vals[0])), api.ErrTooBig}, {"Rest", unknown(text(1, strings.Repeat("a", 70000)), varint(0, 0)), api.ErrNumber}, {"Has 1 1 0; Run 10 Bool", msg(field(1, append(make([]api.Val, 70000), num(2))...)), api.ErrRange},
		{"Has 1 1 0; Pairs 10 Bool Bytes 0", msg(pairs(1, num(0), big(1).Vals[0], num(2), str(""))), api.ErrRange}, {"Has 1 1 0; Pairs 10 String Bool 0", msg(pairs(1, api.Val{B: make([]byte, 70000)}, num(2))), api.ErrRange}, {"Has 1 1 0; Pairs 10 String Message 2", msg(pairs(1, api.Val{B: make([]byte, 70000)}, num(2))), api.ErrType},
		{"Has 1 1 0; Pairs 10 String Message 2", msg(pairs(1, api.Val{B: make([]byte, 70000)}, in(wrong))), api.ErrNumber},
	} {
		lookAtNoBytes(t, writing(t, x.ahead), tried, x.m, x.want)
	}
}

// TestP15_2FirstWithin: of a message within its own bytes are asked alone, behind its own steps.
func TestP15_2FirstWithin(t *testing.T) {
	rest := func(size int) api.Val { return in(unknown(text(1, string(blob(1, size).Vals[0].B)))) }
	full, big, half, wrong := rest(api.MaxMessage), rest(api.MaxMessage+1), rest(api.MaxMessage/2+1000), in(unknown(varint(0, 0)))
	for _, x := range []struct {
		ahead string
		m     api.Msg
		want  api.Errno
	}{
		{"Has 1 1 0; Sub 2", msg(field(1, big)), api.ErrTooBig}, {"Has 1 1 0; Sub 2", msg(field(1, full)), api.ErrTooBig}, {"Has 1 1 0; Sub 2; Val Bool", msg(field(1, full)), api.ErrTooBig}, {"Has 1 1 0; Each 10 Message 2", msg(field(1, big, wrong)), api.ErrTooBig}, {"Has 1 1 0; Each 10 Message 2", msg(field(1, full, wrong)), api.ErrNumber},
		{"Has 1 1 0; Each 10 Message 2", msg(field(1, half, half, half, wrong)), api.ErrNumber}, {"Has 1 1 0; Each 10 Message 2", msg(field(1, half, half, half, in())), api.ErrType}, {"Has 1 1 0; Each 10 Message 2; Val Bool", msg(field(1, half, half, half)), api.ErrTooBig}, {"Has 1 1 0; Each 10 Message 2", msg(field(1, half, half, big, wrong)), api.ErrTooBig},
		{"Has 1 1 0; Each 10 Message 2", msg(field(1, half, half, wrong, big)), api.ErrNumber}, {"Has 1 1 0; Pairs 10 Bool Message 2", msg(pairs(1, num(0), full, num(1), wrong)), api.ErrNumber}, {"Has 1 1 0; Pairs 10 Bool Message 2", msg(pairs(1, num(0), half, num(1), half, num(2), half)), api.ErrRange}, {"Has 1 1 0; Pairs 10 Bool Message 2", msg(pairs(1, num(0), big, num(2), half)), api.ErrTooBig},
		{"Rest; Has 1 2 0; Sub 2", joined(msg(field(1, wrong)), text(1, string(make([]byte, 65532)))), api.ErrNumber}, {"Rest; Has 1 2 0; Sub 2", joined(msg(field(1, wrong)), text(1, string(make([]byte, 65533)))), api.ErrTooBig}, {"Rest; Has 1 2 0; Sub 2; Val Bool", joined(msg(field(1, in(msg()))), text(1, string(make([]byte, 65532)))), api.ErrTooBig},
	} {
		lookAtNoBytes(t, writing(t, x.ahead), tried, x.m, x.want)
	}
	for _, m := range []api.Msg{msg(field(1, full)), msg(field(1, big))} {
		lookAtSize(t, writing(t, "Has 1 1 0; Sub 2"), tried, m, len(chunk(make([]byte, len(m.Fields[0].Vals[0].M[0].Unknown[0].B)+4))))
	}
}

// TestP15_2Many has programs that write one thing many times, and messages within that do so too: they end soon.
func TestP15_2Many(t *testing.T) {
	p := writing(t, "Has 1 101 0"+strings.Repeat("; Sub 0", 100))
	for around := 4; around < 16; around++ {
		lookAtNoBytes(t, p, tried, samples.Nested(1, around, msg()), api.ErrTooBig)
	}
	lookAtNoSize(t, p, tried, samples.Nested(1, 15, msg()), api.ErrTooBig)
	lookAtWritten(t, p, tried, samples.Nested(1, 1, msg()), make([]byte, 100))
	lookAtWritten(t, p, tried, samples.Nested(1, 2, msg()), bytes.Repeat(chunk(make([]byte, 100)), 100))
	lookAtSize(t, p, tried, samples.Nested(1, 3, msg()), 100*len(chunk(make([]byte, 10100))))
	lookAtNoBytes(t, p, tried, samples.Nested(1, 3, msg()), api.ErrTooBig)
	each := writing(t, "Has 1 40 0"+strings.Repeat("; Each 10 Message 0", 39))
	m := msg()
	for range 15 {
		m = msg(field(1, in(m), in(m)))
	}
	lookAtRefused(t, each, tried, m, api.ErrTooBig)
}
