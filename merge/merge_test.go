package merge_test

import (
	"math"
	"slices"
	"testing"

	"cartouche/api"
	"cartouche/merge"
	"cartouche/samples"
)

func TestP10_1Examples(t *testing.T) {
	x, l := field(1, num(1)), field(2, num(2))
	lookAtMerge(t, em(), 1, msg(x, field(2, num(1))), msg(field(1, num(0)), l), msg(field(1, num(0)), field(2, num(1), num(2))))
	lookAtMerge(t, em(), 1, msg(field(3, in(msg(x)))), msg(field(3, in(msg(l)))), msg(field(3, in(msg(x, l)))))
	if v, e := merge.Default(em(), 1, 3); e != api.OK || told(msg(field(3, v))) != "{3[0{}]}" {
		t.Errorf("Default of m: %v, error %d", v, e)
	}
	if v, e := merge.Default(em(), 1, 9); e != api.ErrNone || v.M != nil {
		t.Errorf("Default of 9: %v, error %d", v, e)
	}
}

// allArg is what all calls answer if the table or the index is refused.
var allArg = [6]api.Errno{api.ErrArg, api.ErrArg, api.ErrArg, api.ErrArg, api.ErrArg, api.ErrArg}

// TestErrArg sees that tables that are not good, and an index that is no message's, are refused, whatever else is wrong.
func TestErrArg(t *testing.T) {
	bad := msg(field(9))
	for _, x := range samples.WrongTables() {
		refused(t, x.What, x.Table, 1, msg(), msg(), 1, []string{"x"}, allArg)
		refused(t, x.What, x.Table, 1, bad, bad, 9, []string{""}, allArg)
	}
	for _, index := range []int{-1, 0, 2, 3, 128, math.MinInt, math.MaxInt, -1 << 31, 1 << 32, 1<<32 + 1} {
		refused(t, "index", em(), index, msg(), msg(), 1, []string{"x"}, allArg)
		refused(t, "index", em(), index, bad, bad, 9, []string{"y"}, allArg)
	}
	for _, index := range []int{0, 1, -1} {
		refused(t, "no types", api.Table{}, index, msg(), msg(), 1, nil, allArg)
	}
}

// notTyped are messages that are none of chapter 7's M.
func notTyped() []api.Msg {
	return []api.Msg{
		msg(field(9)), msg(field(0)), msg(field(-1, num(1))), msg(field(1)), msg(field(1, num(1), num(2))), msg(field(1, num(1<<31))), msg(field(1, str("a"))), msg(pairs(1, num(1), num(1))),
		msg(field(2, num(1)), field(1, num(1))), msg(field(1, num(1)), field(1, num(1))), msg(field(3)), msg(field(3, num(1))), msg(field(3, in())), msg(field(3, in(msg(), msg()))), msg(field(3, in(msg(field(9))))),
		unknown(varint(0, 0)), unknown(api.Entry{Number: 1, Kind: 3}), msg(field(3, in(unknown(varint(0, 0))))), samples.Nested(3, 9, msg(field(4))),
	}
}

// TestErrType sees that a message that is not typed is refused, in Merge either one, ahead of paths that are none.
func TestErrType(t *testing.T) {
	const name, wrong, none = api.ErrName, api.ErrType, api.ErrNone
	for _, bad := range notTyped() {
		refused(t, "both", em(), 1, bad, bad, 1, []string{"y"}, [...]api.Errno{wrong, api.OK, wrong, wrong, wrong, wrong})
		refused(t, "the first", em(), 1, bad, msg(), 9, []string{"x"}, [...]api.Errno{wrong, none, wrong, wrong, wrong, wrong})
		refused(t, "the first, no mask", em(), 1, bad, msg(), 9, nil, [...]api.Errno{wrong, none, wrong, wrong, wrong, wrong})
		refused(t, "the second", em(), 1, msg(), bad, 9, []string{"y"}, [...]api.Errno{wrong, none, name, name, name, api.OK})
	}
	refused(t, "none", em(), 1, msg(), msg(), 9, []string{"x"}, [...]api.Errno{api.OK, none, none, api.OK, api.OK, api.OK})
	both := msg(field(11, num(1)), field(13, in(msg())))
	refused(t, "two members", wide(), 1, both, msg(), 1, []string{"a1"}, [...]api.Errno{wrong, api.OK, wrong, wrong, wrong, wrong})
	lookAtMerge(t, wide(), 1, msg(field(11, num(1))), msg(field(13, in(msg()))), msg(field(13, in(msg()))))
}

// TestP10_1Single has each kind with each label of one value: the field in a alone, in b alone, in both.
func TestP10_1Single(t *testing.T) {
	for kind := api.Bool; kind <= api.Message; kind++ {
		good, _ := values(kind)
		for _, label := range []int{api.Plain, api.Optional, api.Member} {
			if !samples.CanBe(kind, label) {
				continue
			}
			x := single(kind, label, 0)
			for _, v := range good {
				own := msg(field(number, v))
				lookAtMerge(t, x, around, own, msg(), own)
				lookAtMerge(t, x, around, msg(), own, own)
				for _, w := range good {
					want := w
					if kind == api.Message && label == api.Optional {
						want = in(mergedInner(v.M[0], w.M[0]))
					}
					lookAtMerge(t, x, around, own, msg(field(number, w)), msg(field(number, want)))
				}
			}
		}
	}
}

// mergedInner tells the merge of messages whose only field is a number.
func mergedInner(a, b api.Msg) api.Msg {
	out := api.Msg{Fields: b.Fields, Unknown: slices.Concat(a.Unknown, b.Unknown)}
	if len(out.Fields) == 0 {
		out.Fields = a.Fields
	}
	return out
}

// TestP10_1Lists has each kind with each label of lists, those without values too.
func TestP10_1Lists(t *testing.T) {
	for kind := api.Bool; kind <= api.Message; kind++ {
		good, _ := values(kind)
		for _, label := range []int{api.Repeated, api.Packed} {
			if !samples.CanBe(kind, label) {
				continue
			}
			x := single(kind, label, 0)
			for _, a := range [][]api.Val{nil, good[:1], good[1:2], good, {good[1], good[0], good[1]}} {
				own := msg(field(number, a...))
				lookAtMerge(t, x, around, own, msg(), own)
				lookAtMerge(t, x, around, msg(), own, own)
				for _, b := range [][]api.Val{nil, good[:1], good[1:], good, {good[1], good[1]}} {
					lookAtMerge(t, x, around, own, msg(field(number, b...)), msg(field(number, slices.Concat(a, b)...)))
				}
			}
		}
	}
}

// TestP10_1Maps has each kind of keys and each of values: keys of a's alone, of b's alone, and of both.
func TestP10_1Maps(t *testing.T) {
	for _, key := range samples.KeyKinds() {
		keys := samples.Rising(key)
		for kind := api.Bool; kind <= api.Message; kind++ {
			good, _ := values(kind)
			x := single(kind, api.Map, key)
			some := func(set int, v api.Val) api.Field {
				f := api.Field{Number: number}
				for i, k := range keys {
					if set>>i&1 == 1 {
						f.Keys, f.Vals = append(f.Keys, k), append(f.Vals, v)
					}
				}
				return f
			}
			for set := range 1 << min(len(keys), 4) {
				one := msg(some(set, good[0]))
				lookAtMerge(t, x, around, one, msg(), one)
				lookAtMerge(t, x, around, msg(), one, one)
				for other := range 1 << min(len(keys), 4) {
					want := some(set|other, good[0])
					for i, k := range want.Keys {
						if slices.ContainsFunc(some(other, good[1]).Keys, func(o api.Val) bool { return o.N == k.N && string(o.B) == string(k.B) }) {
							want.Vals[i] = good[1]
						}
					}
					lookAtMerge(t, x, around, one, msg(some(other, good[1])), msg(want))
				}
			}
		}
	}
}

func TestP10_1Members(t *testing.T) {
	one, two := msg(field(1, num(1))), msg(field(2, str("a")))
	a1, a2, b1, b2 := field(11, num(1)), field(13, in(msg(field(2, num(1))))), field(12, in(one)), field(14, str("b"))
	p, last := field(1, num(1)), field(api.MaxNumber, str("l"))
	for _, row := range []struct{ a, b, want api.Msg }{
		{msg(a1), msg(a2), msg(a2)},
		{msg(a2), msg(a1), msg(a1)},
		{msg(a1), msg(field(11, num(0))), msg(field(11, num(0)))},
		{msg(b1), msg(b2), msg(b2)},
		{msg(b2), msg(b1), msg(b1)},
		{msg(a1), msg(b1), msg(a1, b1)},
		{msg(b1), msg(a1), msg(a1, b1)},
		{msg(b1), msg(a2), msg(b1, a2)},
		{msg(a1, b1), msg(a2), msg(b1, a2)},
		{msg(a1, b1), msg(b2), msg(a1, b2)},
		{msg(a1, b1), msg(a2, b2), msg(a2, b2)},
		{msg(b1, a2), msg(a1, b2), msg(a1, b2)},
		{msg(a1, b1), msg(), msg(a1, b1)},
		{msg(), msg(a1, b1), msg(a1, b1)},
		{msg(p, a1, last), msg(a2), msg(p, a2, last)},
		{msg(a1), msg(p, last), msg(p, a1, last)},
		{msg(b1), msg(field(12, in(two))), msg(field(12, in(two)))},
		{msg(b1), msg(field(12, in(msg()))), msg(field(12, in(msg())))},
		{msg(field(12, in(unknown(varint(99, 1))))), msg(field(12, in(unknown(varint(99, 2))))), msg(field(12, in(unknown(varint(99, 2)))))},
		{msg(field(12, in(msg(a1)))), msg(a2), msg(field(12, in(msg(a1))), a2)},
		{msg(a1), msg(field(12, in(msg(a2)))), msg(a1, field(12, in(msg(a2))))},
	} {
		lookAtMerge(t, wide(), 1, row.a, row.b, row.want)
	}
}

// TestP10_1Within has messages within: those of an Optional field alone are merged, and so within them.
func TestP10_1Within(t *testing.T) {
	p, s, x := field(1, num(1)), field(2, str("a")), field(2, num(1))
	opt := func(f ...api.Field) api.Field { return field(5, in(msg(f...))) }
	list := func(l ...api.Val) api.Field { return field(8, l...) }
	deep := func(l ...api.Field) api.Msg { return msg(opt(opt(opt(opt(l...))))) }
	for _, row := range []struct{ a, b, want api.Msg }{
		{msg(opt(x)), msg(opt()), msg(opt(x))},
		{msg(opt()), msg(opt(x)), msg(opt(x))},
		{msg(opt()), msg(opt()), msg(opt())},
		{msg(opt(x)), msg(opt(opt(p))), msg(opt(x, opt(p)))},
		{deep(p), deep(s), deep(p, s)},
		{deep(p, s), deep(field(1, num(2))), deep(field(1, num(2)), s)},
		{deep(field(11, num(1))), deep(field(13, in(msg()))), deep(field(13, in(msg())))},
		{deep(field(6, num(1))), deep(field(6, num(2))), deep(field(6, num(1), num(2)))},
		{msg(opt(x), list(in(msg(p)))), msg(list(in(msg(s)))), msg(opt(x), list(in(msg(p)), in(msg(s))))},
		{msg(list(in(msg(opt(x))))), msg(list(in(msg(opt(opt()))))), msg(list(in(msg(opt(x))), in(msg(opt(opt())))))},
		{msg(pairs(9, str("a"), in(msg(x)), str("b"), in(msg(x)))), msg(pairs(9, str("b"), in(msg(opt())), str("c"), in(msg()))), msg(pairs(9, str("a"), in(msg(x)), str("b"), in(msg(opt())), str("c"), in(msg())))},
		{msg(pairs(9, str("a"), in(msg(x)))), msg(pairs(9, str("a"), in(msg()))), msg(pairs(9, str("a"), in(msg())))},
		{msg(p), msg(s), msg(p, s)},
		{msg(s), msg(p), msg(p, s)},
		{msg(p, field(4, num(1)), field(api.MaxNumber, str("l"))), msg(s, opt(), pairs(10, num(-1), num(0))), msg(p, s, field(4, num(1)), opt(), pairs(10, num(-1), num(0)), field(api.MaxNumber, str("l")))},
	} {
		lookAtMerge(t, wide(), 1, row.a, row.b, row.want)
	}
}

func TestP10_1Unknown(t *testing.T) {
	one, two, text := varint(99, 1), varint(1, 2), chunk(3, "a")
	opt := func(l ...api.Entry) api.Msg { return msg(field(3, in(unknown(l...)))) }
	for _, row := range []struct{ a, b, want api.Msg }{
		{unknown(one), unknown(two), unknown(one, two)},
		{unknown(two), unknown(one), unknown(two, one)},
		{unknown(one, text), unknown(one), unknown(one, text, one)},
		{unknown(one), msg(), unknown(one)},
		{msg(), unknown(one, text), unknown(one, text)},
		{with(msg(field(1, num(1))), one), with(msg(field(1, num(2))), two, two), with(msg(field(1, num(2))), one, two, two)},
		{opt(one), opt(two), opt(one, two)},
		{opt(one), opt(), opt(one)},
		{with(opt(one), text), with(opt(two), one), with(opt(one, two), text, one)},
		{opt(one), unknown(two), with(opt(one), two)},
	} {
		lookAtMerge(t, em(), 1, row.a, row.b, row.want)
	}
}

// TestP10_1Default has each kind with each label that can be.
func TestP10_1Default(t *testing.T) {
	for kind := api.Bool; kind <= api.Message; kind++ {
		want := "{0[0]}"
		if kind == api.Message {
			want = "{0[0{}]}"
		}
		for label := api.Plain; label <= api.Map; label++ {
			keys := []int{0}
			if label == api.Map {
				keys = samples.KeyKinds()
			}
			for _, key := range keys {
				v, e := merge.Default(single(kind, label, key), around, number)
				if !samples.CanBe(kind, label) {
					continue
				}
				if e != api.OK || told(msg(field(0, v))) != want {
					t.Errorf("kind %d, label %d: %s, error %d; want %s", kind, label, told(msg(field(0, v))), e, want)
				}
			}
		}
	}
	for _, n := range []int{0, -1, 4, 9, -3, 1<<32 + 1, 1<<32 + 3, api.MaxNumber, api.MaxNumber + 1, math.MinInt, math.MaxInt} {
		if v, e := merge.Default(em(), 1, n); e != api.ErrNone || told(msg(field(0, v))) != "{0[0]}" {
			t.Errorf("Default of %d: %v, error %d", n, v, e)
		}
	}
	for _, n := range []int{1, 3, 4, 6, 8, 15, 99} {
		if _, e := merge.Default(wide(), 2, n); e != api.ErrNone {
			t.Errorf("Default of V's %d: error %d", n, e)
		}
	}
	if _, e := merge.Default(wide(), 1, api.MaxNumber); e != api.OK {
		t.Errorf("Default of the greatest number: error %d", e)
	}
}
