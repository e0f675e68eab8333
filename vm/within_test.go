package vm_test

import (
	"testing"

	"cartouche/api"
	"cartouche/plan"
	"cartouche/samples"
)

func TestP15_1Msg(t *testing.T) {
	one, two := msg(field(1, num(1))), msg(field(1, num(2)))
	deeper := msg(field(1, num(1)), field(2, in(one)))
	lookAtReads(t, []read{
		{"Msg 4 2 0", []byte{8, 0}, msg(field(4, in(msg()))), 5}, {"Msg 4 2 0", []byte{8, 2, 8, 1}, msg(field(4, in(one))), 4 + 6}, {"Msg 4 2 0", []byte{8, 2, 8, 1, 8, 0}, msg(field(4, in(one))), 7 + 7}, {"Msg 4 2 0", []byte{8, 2, 8, 1, 8, 2, 8, 2}, msg(field(4, in(two))), 7 + 12},
		{"Msg 4 2 0", []byte{8, 2, 8, 1, 8, 4, 18, 2, 8, 1}, msg(field(4, in(deeper))), 7 + 6 + 6 + 6}, {"Msg 4 2 0", []byte{8, 4, 24, 1, 24, 2, 8, 2, 24, 3}, msg(field(4, in(unknown(varint(3, 1), varint(3, 2), varint(3, 3))))), 7 + 11 + 6},
		{"Msg 4 2 1", []byte{8, 0}, msg(field(4, in(msg()))), 5}, {"Msg 4 2 1", []byte{8, 2, 8, 1, 8, 0, 8, 2, 8, 2}, msg(field(4, in(one), in(msg()), in(two))), 10 + 13}, {"Msg 4 2 2", []byte{8, 2, 8, 1, 8, 4, 18, 2, 8, 1}, msg(field(4, in(msg(field(2, in(one)))))), 7 + 6 + 6 + 6}, {"Msg 4 2 2", []byte{8, 0}, msg(field(4, in(msg()))), 5},
		// With 0 into the message that is there alone: not into one of several, and not into what is none.
		{"Msg 4 2 1; Msg 4 2 1; Msg 4 2 0", []byte{8, 2, 8, 1, 2, 8, 2, 0}, msg(field(4, in(msg()))), 6 + 6 + 6 + 1}, {"Msg 4 2 1; Msg 4 2 0", []byte{8, 2, 8, 1, 0}, msg(field(4, in(one))), 5 + 6 + 1}, {"Read Int32; Set 4; Msg 4 2 0", []byte{8, 5, 0}, msg(field(4, in(msg()))), 7},
		{"Read Bytes; Set 4; Msg 4 2 0", []byte{8, 1, 97, 0}, msg(field(4, in(msg()))), 7}, {"Row 4 Bool 0; Msg 4 2 0", []byte{8, 0, 0}, msg(field(4, in(msg()))), 6}, {"Msg 4 2 2; Add 4; Msg 4 2 0", []byte{8, 2, 8, 1, 0}, msg(field(4, in(msg()))), 6 + 6 + 1},
		{"Read Int32; Set 4; Msg 4 2 1", []byte{8, 5, 0}, msg(field(4, num(5), in(msg()))), 7}, {"Read Int32; Add 4; Add 4; Msg 4 2 2", []byte{8, 5, 2, 8, 1}, msg(field(4, in(one))), 7 + 6},
		// What becomes one value has no keys.
		{"Pair 4 Bool Message 2; Msg 4 2 0", []byte{8, 6, 8, 1, 18, 2, 8, 1, 0}, msg(field(4, in(one))), 5 + 6 + 1}, {"Pair 4 Bool Message 2; Msg 4 2 2", []byte{8, 6, 8, 1, 18, 2, 8, 1, 0}, msg(field(4, in(msg()))), 5 + 6 + 1},
		{"Pair 4 Bool Message 2; Msg 4 2 1", []byte{8, 6, 8, 1, 18, 2, 8, 1, 0}, msg(api.Field{Number: 4, Keys: []api.Val{num(1)}, Vals: []api.Val{in(one), in(msg())}}), 5 + 6 + 1},
		// The field of another number is not touched.
		{"Msg 4 2 1; Msg 5 2 0; Msg 3 2 2", []byte{8, 2, 8, 1, 2, 8, 2, 0}, msg(field(3, in(msg())), field(4, in(one)), field(5, in(two))), 6 + 6 + 6 + 1},
	})
	for _, steps := range []string{"Msg 4 2 0", "Msg 4 2 1", "Msg 4 2 2"} {
		lookAtFaults(t, []fault{
			{steps, []byte{8}, api.ErrEnd}, {steps, []byte{8, 1}, api.ErrEnd}, {steps, all([]byte{8}, endless), api.ErrVarint}, {steps, []byte{8, 1, 8}, api.ErrEnd}, {steps, []byte{8, 1, 11}, api.ErrKind}, {steps, []byte{8, 1, 8, 5}, api.ErrEnd}, {steps, []byte{8, 2, 24, 128, 1}, api.ErrEnd},
			{steps, all([]byte{8}, chunk([]byte{8}, digits(1<<31))), api.ErrRange}, {steps, []byte{8, 0, 0}, api.ErrNumber}, {steps, []byte{8, 2, 18, 1, 8}, api.ErrEnd}, {steps + "; Sym 1", []byte{8, 1, 0}, api.ErrNumber},
		})
	}
}

// TestP15_1Depth has messages within one another to the greatest depth, and one more; a chunk's own fault is told first.
func TestP15_1Depth(t *testing.T) {
	p := reading(t, "Msg 2 2 0")
	last := field(1, num(7))
	lookAtRead(t, p, tried, inside(2, 15, []byte{8, 7}), samples.Nested(2, 15, msg(last)), 4+14*6+6)
	lookAtRead(t, p, tried, inside(2, 15, nil), samples.Nested(2, 15, msg()), 4+14*6+1)
	lookAtRead(t, p, tried, inside(2, 15, []byte{26, 0}), samples.Nested(2, 15, unknown(text(3, ""))), 4+14*6+6)
	for _, b := range [][]byte{nil, {8, 7}, {11}, inside(2, 9, nil)} {
		lookAtFault(t, p, tried, inside(2, 16, b), api.ErrTooDeep)
		lookAtFault(t, p, inner, inside(2, 16, b), api.ErrTooDeep)
	}
	lookAtFault(t, p, tried, inside(2, 15, []byte{18, 1}), api.ErrEnd)
	lookAtFault(t, p, tried, inside(2, 15, all([]byte{18}, endless)), api.ErrVarint)
	lookAtFault(t, p, tried, inside(2, 15, []byte{11, 18, 0}), api.ErrKind)
	lookAtFault(t, p, tried, inside(2, 15, []byte{18, 0, 11}), api.ErrTooDeep)
	lookAtFault(t, p, tried, all(inside(2, 16, nil), []byte{11}), api.ErrTooDeep)
	// Messages one behind the other are not deeper.
	lookAtRead(t, reading(t, "Msg 2 2 1"), tried, all(inside(2, 15, nil), inside(2, 15, nil)), msg(field(2, in(samples.Nested(2, 14, msg())), in(samples.Nested(2, 14, msg())))), 7+2*(14*6-6+1+6))
	for _, between := range []string{"Msg 2 0 0", "Msg 2 0 1", "Msg 2 0 2"} {
		lookAtRead(t, reading(t, between), tried, inside(1, 15, nil), samples.Nested(2, 15, msg()), 15*3+16)
		lookAtFault(t, reading(t, between), tried, inside(1, 16, nil), api.ErrTooDeep)
	}
	lookAtRead(t, reading(t, "Pair 2 Bool Message 0"), tried, nestedPairs(15), pairsIn(15), 15*3+16)
	lookAtFault(t, reading(t, "Pair 2 Bool Message 0"), tried, nestedPairs(16), api.ErrTooDeep)
}

// nestedPairs tells bytes of maps' chunks within one another: in the last one there is a message without bytes.
func nestedPairs(around int) []byte {
	var b []byte
	for range around {
		b = all([]byte{8}, chunk([]byte{18}, chunk(b)))
	}
	return b
}

func pairsIn(around int) api.Msg {
	m := msg()
	for range around {
		m = msg(pairs(2, num(0), in(m)))
	}
	return m
}

func TestP15_1Row(t *testing.T) {
	lookAtReads(t, []read{
		{"Row 4 Int32 0", []byte{8, 0}, msg(field(4)), 4}, {"Row 4 Int32 0", []byte{8, 3, 1, 172, 2}, msg(field(4, num(1), num(300))), 4}, {"Row 4 Int32 0", []byte{8, 1, 1, 8, 0, 8, 1, 2}, msg(field(4, num(1), num(2))), 10}, {"Row 4 Fixed32 0", []byte{8, 8, 1, 0, 0, 0, 2, 0, 0, 0}, msg(field(4, num(1), num(2))), 4},
		{"Row 4 Enum 2", []byte{8, 2, 3, 5}, msg(field(4, num(3), num(5))), 4}, {"Row 4 Enum 2", []byte{8, 0}, msg(field(4)), 4}, {"Read Bytes; Set 4; Row 4 Bool 0", []byte{8, 1, 97, 1, 1}, msg(field(4, str("a"), num(1))), 6}, {"Row 4 Bool 0; Row 4 Bool 0", []byte{8, 1, 1, 0}, msg(field(4, num(1))), 5},
		{"Pair 4 Bool Bool 0; Row 4 Bool 0", []byte{8, 2, 8, 1, 1, 1}, msg(api.Field{Number: 4, Keys: []api.Val{num(1)}, Vals: []api.Val{num(0), num(1)}}), 5}, {"Pair 4 Bool Bool 0; Row 4 Bool 0", []byte{8, 0, 0}, msg(pairs(4, num(0), num(0))), 5}, {"Msg 4 2 0; Row 4 Bool 0", []byte{8, 0, 1, 0}, msg(field(4, in(msg()), num(0))), 6},
	})
	for kind := api.Bool; kind <= api.Double; kind++ {
		good, _ := samples.Values(kind)
		var row []byte
		for _, v := range good {
			row = all(row, bare(kind, v))
		}
		p := reading(t, "Row 4 "+samples.Kinds()[kind-1]+" 0")
		lookAtRead(t, p, tried, all([]byte{8}, chunk(row)), msg(field(4, good...)), 4)
		if ownWire(kind) != api.Varint {
			lookAtFault(t, p, tried, all([]byte{8}, chunk(row[1:]), row), api.ErrEnd) // a value does not go past the chunk's end
		}
	}
	lookAtFaults(t, []fault{
		{"Row 4 Int32 0", []byte{8}, api.ErrEnd}, {"Row 4 Int32 0", []byte{8, 2, 1}, api.ErrEnd}, {"Row 4 Int32 0", []byte{8, 1, 128, 1}, api.ErrEnd}, {"Row 4 Bool 0", []byte{8, 2, 1, 2}, api.ErrRange}, {"Row 4 Int64 0", all([]byte{8}, chunk(endless)), api.ErrVarint}, {"Row 4 Int64 0", all([]byte{8}, endless), api.ErrVarint},
		{"Row 4 Enum 2", []byte{8, 2, 3, 4}, api.ErrSymbol}, {"Row 4 Enum 2", []byte{8, 1, 0}, api.ErrSymbol}, {"Row 4 Enum 2", []byte{8, 2, 4, 128}, api.ErrSymbol}, {"Row 4 Enum 2", []byte{8, 2, 3, 128}, api.ErrEnd}, {"Row 4 Enum 2", all([]byte{8}, chunk(digits(1<<31))), api.ErrRange},
	})
}

func TestP15_1Pair(t *testing.T) {
	one, seven := num(1), num(7)
	const flags, ints, texts = "Pair 4 Bool Int32 0", "Pair 4 Int32 Int32 0", "Pair 4 String String 0"
	lookAtReads(t, []read{
		{flags, []byte{8, 0}, msg(pairs(4, num(0), num(0))), 4}, {flags, []byte{8, 4, 8, 1, 16, 7}, msg(pairs(4, one, seven)), 4}, {flags, []byte{8, 4, 16, 7, 8, 1}, msg(pairs(4, one, seven)), 4}, {flags, []byte{8, 2, 8, 1}, msg(pairs(4, one, num(0))), 4}, {flags, []byte{8, 2, 16, 7}, msg(pairs(4, num(0), seven)), 4},
		// Of several the last one counts; what is no part is dropped.
		{flags, []byte{8, 8, 8, 0, 16, 9, 16, 7, 8, 1}, msg(pairs(4, one, seven)), 4}, {flags, []byte{8, 16, 8, 1, 24, 9, 10, 1, 9, 21, 1, 2, 3, 4, 16, 7, 26, 0}, msg(pairs(4, one, seven)), 4}, {flags, []byte{8, 6, 10, 1, 1, 18, 1, 7}, msg(pairs(4, num(0), num(0))), 4},
		{texts, []byte{8, 6, 10, 1, 97, 18, 1, 98}, msg(pairs(4, str("a"), str("b"))), 4}, {texts, []byte{8, 4, 8, 1, 16, 1}, msg(pairs(4, str(""), str(""))), 4}, {texts, []byte{8, 6, 18, 1, 98, 10, 1, 97, 8, 3, 10, 1, 97}, msg(pairs(4, str("a"), str(""))), 7},
		// Keys that are there, and those that are not: by their order.
		{ints, []byte{8, 4, 8, 3, 16, 1, 8, 4, 8, 1, 16, 2, 8, 4, 8, 2, 16, 3, 8, 4, 8, 4, 16, 4}, msg(pairs(4, one, num(2), num(2), num(3), num(3), num(1), num(4), num(4))), 13}, {ints, []byte{8, 4, 8, 3, 16, 1, 8, 4, 8, 1, 16, 2, 8, 4, 8, 3, 16, 3}, msg(pairs(4, one, num(2), num(3), num(3))), 10},
		{ints, all([]byte{8}, chunk([]byte{8}, longest), []byte{8, 2, 8, 1, 8, 0}), msg(pairs(4, num(-1), num(0), num(0), num(0), one, num(0))), 10}, {texts, []byte{8, 3, 10, 1, 98, 8, 4, 10, 2, 97, 97, 8, 3, 10, 1, 97}, msg(pairs(4, str("a"), str(""), str("aa"), str(""), str("b"), str(""))), 10},
	})
	for _, key := range samples.KeyKinds() {
		keys := samples.Rising(key)
		p := reading(t, "Pair 4 "+samples.Kinds()[key-1]+" Bool 0")
		lookAtKeyOrder(t, p, key, keys)
	}
	for kind := api.Bool; kind <= api.Bytes; kind++ {
		good, _ := samples.Values(kind)
		for _, v := range good {
			lookAtRead(t, reading(t, "Pair 4 Bool "+samples.Kinds()[kind-1]+" 0"), tried, all([]byte{8}, chunk(tag(2, ownWire(kind)), bare(kind, v))), msg(pairs(4, num(0), v)), 4)
		}
	}
	lookAtFaults(t, []fault{
		{flags, []byte{8}, api.ErrEnd}, {flags, []byte{8, 1}, api.ErrEnd}, {flags, all([]byte{8}, endless), api.ErrVarint}, {flags, []byte{8, 1, 8, 1}, api.ErrEnd}, {flags, []byte{8, 2, 8, 2}, api.ErrRange}, {flags, []byte{8, 4, 16, 1, 8, 2}, api.ErrRange}, {flags, []byte{8, 2, 16, 128}, api.ErrEnd}, {flags, []byte{8, 1, 0}, api.ErrNumber},
		{flags, []byte{8, 1, 11}, api.ErrKind}, {flags, []byte{8, 2, 24, 128, 1}, api.ErrEnd}, {flags, []byte{8, 2, 10, 1, 1}, api.ErrEnd}, {flags, []byte{8, 3, 21, 1, 1, 1, 1}, api.ErrEnd}, {texts, []byte{8, 3, 10, 1, 255}, api.ErrText}, {texts, []byte{8, 3, 18, 1, 255}, api.ErrText}, {flags, all([]byte{8}, chunk([]byte{8, 1, 24}, endless)), api.ErrVarint},
		{flags, []byte{8, 4, 8, 2, 16, 1}, api.ErrRange}, {flags, all([]byte{8}, chunk([]byte{8, 2, 16}, endless)), api.ErrRange}, {flags, all([]byte{8}, chunk([]byte{16}, endless, []byte{8, 2})), api.ErrVarint},
	})
}

// lookAtKeyOrder puts keys in from the first on, from the last on, and each twice.
func lookAtKeyOrder(t *testing.T, p plan.Program, kind int, keys []api.Val) {
	t.Helper()
	pair := func(key api.Val, val byte) []byte {
		return all([]byte{8}, chunk(tag(1, ownWire(kind)), bare(kind, key), []byte{16, val}))
	}
	var rising, falling []byte
	var want []api.Val
	for i, key := range keys {
		rising, falling = all(rising, pair(key, byte(i%2))), all(pair(key, byte(i%2)), falling)
		want = append(want, key, num(int64(i%2)))
	}
	n := 3*len(keys) + 1
	lookAtRead(t, p, tried, rising, msg(pairs(4, want...)), n)
	lookAtRead(t, p, tried, falling, msg(pairs(4, want...)), n)
	lookAtRead(t, p, tried, all(falling, rising), msg(pairs(4, want...)), 2*n-1)
	var ones []byte
	for _, key := range keys {
		ones = all(ones, pair(key, 1))
	}
	lookAtRead(t, p, tried, all(falling, ones), msg(pairs(4, withOnes(keys)...)), 2*n-1)
}

// withOnes tells keys, each with the value 1.
func withOnes(keys []api.Val) []api.Val {
	var out []api.Val
	for _, key := range keys {
		out = append(out, key, num(1))
	}
	return out
}

// TestP15_1PairMixed has keys of several kinds in one field: one that Compare refuses is neither the same nor greater.
func TestP15_1PairMixed(t *testing.T) {
	zero, one, seven := num(0), num(1), num(7)
	lookAtReads(t, []read{
		{"Pair 4 Int32 Bool 0; Pair 4 Bool Bool 0", []byte{8, 2, 8, 7, 2, 8, 1}, msg(pairs(4, seven, zero, one, zero)), 5},
		{"Pair 4 Int32 Bool 0; Pair 4 Bool Bool 0; Pair 4 Bool Bool 0", []byte{8, 2, 8, 7, 2, 8, 1, 0}, msg(pairs(4, seven, zero, zero, zero, one, zero)), 6},
		{"Pair 4 Int32 Bool 0; Pair 4 Bool Bool 0; Pair 4 Bool Int32 0", []byte{8, 2, 8, 7, 2, 8, 1, 4, 8, 1, 16, 9}, msg(pairs(4, seven, zero, one, num(9))), 6},
		{"Pair 4 Bool Bool 0; Pair 4 String Bool 0", []byte{8, 2, 8, 1, 3, 10, 1, 97}, msg(pairs(4, one, zero, str("a"), zero)), 5}, {"Pair 4 String Bool 0; Pair 4 Bool Bool 0", []byte{8, 3, 10, 1, 97, 2, 8, 1}, msg(pairs(4, str("a"), zero, one, zero)), 5},
		{"Pair 4 String Bool 0; Pair 4 Bool Int32 0", []byte{8, 0, 2, 16, 5}, msg(pairs(4, zero, num(5))), 5}, // the text without bytes and the number 0 are one
		// By one kind in another order than by the other one: the same key is found behind one that is greater.
		{"Pair 4 Uint64 Bool 0; Pair 4 Uint64 Bool 0; Pair 4 Int64 Int32 0", all([]byte{8}, chunk([]byte{8}, longest), []byte{2, 8, 1}, chunk([]byte{16, 5, 8}, longest)), msg(pairs(4, one, zero, num(-1), num(5))), 6},
		{"Pair 4 Uint64 Bool 0; Pair 4 Uint64 Bool 0; Pair 4 Int64 Int32 0; Pair 4 Int64 Int32 0", all([]byte{8}, chunk([]byte{8}, longest), []byte{2, 8, 1}, chunk([]byte{8}, longest), []byte{0}), msg(pairs(4, zero, zero, one, zero, num(-1), zero)), 7},
		// And back: what one kind has mixed up is not in order by the one of before.
		{"Pair 4 Uint64 Bool 0; Pair 4 Int64 Bool 0; Pair 4 Uint64 Bool 0", all([]byte{8, 2, 8, 5}, chunk([]byte{8}, longest), []byte{2, 8, 3}), msg(pairs(4, num(3), zero, num(-1), zero, num(5), zero)), 6},
		{"Pair 4 Uint64 Bool 0; Pair 4 Int64 Bool 0; Pair 4 Uint64 Int32 0", all([]byte{8, 2, 8, 5}, chunk([]byte{8}, longest), []byte{4, 8, 5, 16, 9}), msg(pairs(4, num(-1), zero, num(5), num(9))), 6},
		{"Pair 4 Int32 Bool 0; Pair 4 Bool Bool 0; Pair 4 Int32 Bool 0", []byte{8, 2, 8, 7, 2, 8, 1, 2, 8, 2}, msg(pairs(4, num(2), zero, seven, zero, one, zero)), 6},
	})
	// Each second one rises.
	steps := valid(t, around(block("Tag; Case 8 4; Pair 4 Int32 Int32 0; Go 0; Pair 4 Bool Bool 0; Go 0", "End", "")))
	lookAtRead(t, steps, tried, all([]byte{8, 2, 8, 7, 16, 2, 8, 1, 8}, chunk([]byte{8}, digits(1<<64-5)), []byte{8, 4, 8, 1, 16, 9}), msg(pairs(4, num(-5), zero, seven, zero, one, num(9))), 4*4+1)
	// A single key that is refused, and many.
	lookAtRead(t, valid(t, around(block("Tag; Case 8 4; Pair 4 Int32 Bool 0; Go 0; Pair 4 Bool Int32 0; Go 0", "End", ""))), tried, []byte{8, 2, 8, 7, 8, 2, 8, 5, 16, 2, 8, 1, 16, 2, 8, 0, 16, 4, 8, 1, 16, 3}, msg(pairs(4, num(5), zero, seven, zero, zero, zero, one, num(3))), 4*5+1)
}

// TestP15_1PairEmptied: a field that has not as many keys as values is emptied first.
func TestP15_1PairEmptied(t *testing.T) {
	zero, one := num(0), num(1)
	lookAtReads(t, []read{
		{"ReadAdd Bool 4; Pair 4 Bool Bool 0", []byte{8, 1, 0}, msg(pairs(4, zero, zero)), 5}, {"Row 4 Bool 0; Pair 4 Bool Bool 0", []byte{8, 2, 1, 1, 0}, msg(pairs(4, zero, zero)), 5}, {"Row 4 Bool 0; Pair 4 Bool Bool 0", []byte{8, 0, 0}, msg(pairs(4, zero, zero)), 5},
		{"Msg 4 2 1; Pair 4 Bool Bool 0", []byte{8, 0, 0}, msg(pairs(4, zero, zero)), 6}, {"Pair 4 Bool Bool 0; Add 4; Pair 4 Bool Bool 0", []byte{8, 2, 8, 1, 0}, msg(pairs(4, zero, zero)), 6}, {"Pair 4 Bool Bool 0; Row 4 Bool 0; Pair 4 Bool Bool 0", []byte{8, 2, 8, 1, 1, 1, 2, 8, 1}, msg(pairs(4, one, zero)), 6},
		{"Pair 4 Bool Bool 0; Set 4; Pair 4 Bool Bool 0", []byte{8, 2, 8, 1, 0}, msg(pairs(4, zero, zero)), 6}, {"Pair 4 Bool Bool 0; Row 4 Bool 0; Pair 4 Bool Bool 0", []byte{8, 2, 8, 1, 0, 0}, msg(pairs(4, zero, zero, one, zero)), 6}, {"Pair 4 Bool Bool 0; Clear 4; Pair 4 Bool Bool 0", []byte{8, 2, 8, 1, 0}, msg(pairs(4, zero, zero)), 6},
		{"Pair 4 Bool Bool 0; Set 4; Clear 4; Pair 4 Int32 Bool 0; Pair 4 Int32 Bool 0", []byte{8, 2, 8, 1, 2, 8, 9, 2, 8, 8}, msg(pairs(4, num(8), zero, num(9), zero)), 8},
		// The fields of other numbers stay.
		{"Set 3; Add 5; Pair 4 Bool Bool 0", []byte{8, 0}, msg(field(3, zero), pairs(4, zero, zero), field(5, zero)), 6},
	})
}

// TestP15_1PairEnum: a number that is no symbol is refused, but no symbol is asked of a default.
func TestP15_1PairEnum(t *testing.T) {
	const steps = "Pair 4 Bool Enum 1"
	lookAtReads(t, []read{{steps, []byte{8, 2, 16, 3}, msg(pairs(4, num(0), num(3))), 4}, {steps, []byte{8, 0}, msg(pairs(4, num(0), num(0))), 4}, {steps, []byte{8, 2, 8, 1, 8, 4, 8, 1, 16, 5}, msg(pairs(4, num(1), num(5))), 7}, {steps, []byte{8, 2, 18, 0}, msg(pairs(4, num(0), num(0))), 4}})
	lookAtFaults(t, []fault{{steps, []byte{8, 2, 16, 0}, api.ErrSymbol}, {steps, []byte{8, 2, 16, 4}, api.ErrSymbol}, {steps, []byte{8, 4, 16, 4, 16, 3}, api.ErrSymbol}, {steps, []byte{8, 4, 16, 3, 8, 2}, api.ErrRange}, {steps, []byte{8, 4, 16, 4, 8, 2}, api.ErrSymbol}, {steps, all([]byte{8}, chunk([]byte{16}, digits(1<<31))), api.ErrRange}})
}

// TestP15_1PairMessage: a message is read anew each time, and one that lacks is entered too.
func TestP15_1PairMessage(t *testing.T) {
	const steps = "Pair 4 Bool Message 2"
	one, two := msg(field(1, num(1))), msg(field(1, num(2)))
	lookAtReads(t, []read{
		{steps, []byte{8, 2, 18, 0}, msg(pairs(4, num(0), in(msg()))), 5}, {steps, []byte{8, 4, 18, 2, 8, 1}, msg(pairs(4, num(0), in(one))), 4 + 6}, {steps, []byte{8, 6, 18, 2, 8, 1, 8, 1}, msg(pairs(4, num(1), in(one))), 4 + 6}, {steps, []byte{8, 8, 18, 2, 8, 1, 18, 2, 18, 0}, msg(pairs(4, num(0), in(msg(field(2, in(msg())))))), 4 + 6 + 7},
		{steps, []byte{8, 4, 18, 2, 8, 1, 8, 6, 18, 0, 18, 2, 8, 2}, msg(pairs(4, num(0), in(two))), 7 + 6 + 1 + 6}, {steps, []byte{8, 0}, msg(pairs(4, num(0), in(msg()))), 5}, {steps, []byte{8, 2, 8, 1, 8, 4, 18, 2, 8, 1}, msg(pairs(4, num(0), in(one), num(1), in(msg()))), 7 + 1 + 6}, {steps, []byte{8, 4, 18, 2, 8, 1, 8, 0}, msg(pairs(4, num(0), in(msg()))), 7 + 6 + 1},
		{steps, []byte{8, 2, 16, 0}, msg(pairs(4, num(0), in(msg()))), 5}, {steps + "; Set 1", []byte{8, 0}, msg(field(1, num(0)), pairs(4, num(0), in(msg()))), 6},
	})
	lookAtFaults(t, []fault{{steps, []byte{8, 1, 18}, api.ErrEnd}, {steps, []byte{8, 2, 18, 1, 8}, api.ErrEnd}, {steps, []byte{8, 3, 18, 1, 8}, api.ErrEnd}, {steps, []byte{8, 3, 18, 1, 11}, api.ErrKind}, {steps, []byte{8, 4, 18, 0, 8, 2}, api.ErrRange}, {steps, []byte{8, 5, 18, 1, 11, 8, 2}, api.ErrKind}, {steps, []byte{8, 2, 18, 0, 11}, api.ErrKind}})
	deepest := func(b ...byte) []byte { return inside(1, 15, b) }
	p := valid(t, around(block("Tag; Case 10 4; Msg 1 0 0; Go 0; Case 18 7; Pair 2 Bool Message 0; Go 0; Pair 3 Bool Bool 0; Go 0", "End", "")))
	for _, x := range []struct {
		b    []byte
		want api.Errno
	}{
		{deepest(18, 2, 18, 0), api.ErrTooDeep}, {deepest(18, 0), api.ErrTooDeep}, {deepest(18, 2, 8, 1), api.ErrTooDeep}, {deepest(18, 2, 8, 2), api.ErrRange}, {deepest(18, 1, 8), api.ErrEnd}, {deepest(18, 2, 8, 1, 11), api.ErrTooDeep}, {deepest(18, 4, 18, 0, 8, 2), api.ErrTooDeep}, {deepest(18, 4, 8, 2, 18, 0), api.ErrRange}, {deepest(18, 3, 18, 1), api.ErrEnd},
		{deepest(18, 2, 18, 1), api.ErrEnd}, {deepest(18, 3, 16, 1, 11), api.ErrKind},
	} {
		lookAtFault(t, p, tried, x.b, x.want)
	}
	lookAtRead(t, p, tried, deepest(26, 0), samples.Nested(1, 15, msg(pairs(3, num(0), num(0)))), 15*4+15+6)
	lookAtRead(t, p, tried, inside(1, 14, []byte{18, 0}), samples.Nested(1, 14, msg(pairs(2, num(0), in(msg())))), 14*4+14+6+1)
}
