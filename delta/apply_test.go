package delta_test

import (
	"math"
	"slices"
	"testing"

	"cartouche/api"
	"cartouche/delta"
	"cartouche/samples"
)

// elsewhere are numbers that are no fields of the small types here.
func elsewhere() []int {
	return []int{0, 4, 9, -1, -3, api.MaxNumber, api.MaxNumber + 1, math.MinInt, math.MaxInt, 1 << 32, 1<<32 + 3, 3 - 1<<32}
}

func TestP21_2Examples(t *testing.T) {
	x := msg(field(1, num(1)))
	lookAtRefused(t, em(), 1, x, api.ErrNone, take(1), take(1))
	lookAtRefused(t, em(), 1, msg(), api.ErrNone, put(field(1, num(1)), 3))
	lookAtRefused(t, em(), 1, msg(), api.ErrType, put(field(1, num(1), num(2))))
}

// TestP21_2Put has fields that take their places: between others, and in place of those that are there.
func TestP21_2Put(t *testing.T) {
	x, l, m := field(1, num(1)), field(2, num(2)), field(3, in(msg(field(1, num(7)))))
	lookAtApplied(t, em(), 1, msg(), msg(x), put(x))
	lookAtApplied(t, em(), 1, msg(x, m), msg(x, l, m), put(l))
	lookAtApplied(t, em(), 1, msg(l, m), msg(x, l, m), put(x))
	lookAtApplied(t, em(), 1, msg(x, l), msg(x, l, m), put(m))
	lookAtApplied(t, em(), 1, msg(field(1, num(9)), l), msg(x, l), put(x))
	lookAtApplied(t, em(), 1, msg(x, field(2, num(9), num(8)), m), msg(x, l, m), put(l))
	lookAtApplied(t, em(), 1, msg(x, field(3, in(msg(l)))), msg(x, m), put(m)) // not merged
	lookAtApplied(t, em(), 1, msg(x, l), msg(x, field(2)), put(field(2)))
	lookAtApplied(t, em(), 1, with(msg(x), varint(9, 1)), with(msg(x, l), varint(9, 1)), put(l))
	lookAtApplied(t, em(), 1, msg(), msg(x, l, m), put(m), put(x), put(l))
	lookAtApplied(t, wide(), 1, msg(pairs(9, str("a"), in(msg()))), msg(pairs(9, str("b"), in(msg()))), put(pairs(9, str("b"), in(msg()))))
}

// TestP21_2Values has a field of each kind and label, put over another one and where there was none, with each value that it may have, and with others.
func TestP21_2Values(t *testing.T) {
	eachSingle(func(x api.Table, f api.FieldType, of func(api.Val) api.Field) {
		good, bad := samples.Values(f.Kind)
		for _, v := range good {
			lookAtApplied(t, x, around, msg(), msg(of(v)), put(of(v)))
			lookAtApplied(t, x, around, msg(of(good[1])), msg(of(v)), put(of(v)))
			lookAtApplied(t, x, around, msg(of(v)), msg(), take(number))
		}
		for _, v := range bad {
			lookAtRefused(t, x, around, msg(), api.ErrType, put(of(v)))
			lookAtRefused(t, x, around, msg(of(good[0])), api.ErrType, put(of(v)))
		}
		two := put(field(number, good[:2]...))
		switch f.Label {
		case api.Repeated, api.Packed:
			lookAtApplied(t, x, around, msg(), msg(two.F), two)
		default:
			lookAtRefused(t, x, around, msg(), api.ErrType, two)
			lookAtRefused(t, x, around, msg(), api.ErrType, two, take(number))
		}
		if f.Label < api.Repeated || f.Label == api.Member {
			lookAtRefused(t, x, around, msg(), api.ErrType, put(field(number)))
			lookAtRefused(t, x, around, msg(), api.ErrType, put(pairs(number, num(0), good[0])))
		}
	})
}

// TestP21_2PutErrors has fields that are not typed alone: what the message has beside them, and what becomes of them behind, does not help.
func TestP21_2PutErrors(t *testing.T) {
	x := msg(field(1, num(1)), field(3, in(msg(field(3, in(msg()))))))
	for _, path := range [][]int{nil, {3}, {3, 3}} {
		for _, n := range elsewhere() {
			lookAtRefused(t, em(), 1, x, api.ErrType, put(field(n, num(1)), path...))
			lookAtRefused(t, em(), 1, x, api.ErrType, put(field(n), path...), take(n, path...))
		}
		for _, f := range []api.Field{field(1), field(1, num(1<<31)), field(1, str("a")), field(2, num(1<<32)), pairs(2, num(1), num(1)), field(3), field(3, in()), field(3, in(msg(), msg())), field(3, in(msg(field(9)))), field(3, in(msg(field(2), field(1, num(1))))), field(3, in(unknown(api.Entry{})))} {
			lookAtRefused(t, em(), 1, x, api.ErrType, put(f, path...))
			lookAtRefused(t, em(), 1, x, api.ErrType, put(f, path...), put(field(1, num(5)), path...), take(3))
		}
	}
	lookAtRefused(t, wide(), 1, msg(field(5, in(msg()))), api.ErrType, put(field(1, num(1)), 5)) // a field of the message around
	lookAtApplied(t, wide(), 1, msg(field(5, in(msg()))), msg(field(5, in(msg(field(2, num(1)))))), put(field(2, num(1)), 5))
}

// TestP21_2Take has fields that go, and numbers that are not there: not there at all, or fields of the type that the message has not.
func TestP21_2Take(t *testing.T) {
	x, l, m := field(1, num(1)), field(2, num(2)), field(3, in(msg(field(1, num(7)))))
	lookAtApplied(t, em(), 1, msg(x, l, m), msg(l, m), take(1))
	lookAtApplied(t, em(), 1, msg(x, l, m), msg(x, m), take(2))
	lookAtApplied(t, em(), 1, msg(x, l, m), msg(x, l), take(3))
	lookAtApplied(t, em(), 1, with(msg(x), varint(2, 1)), unknown(varint(2, 1)), take(1))
	lookAtApplied(t, em(), 1, msg(x, l, m), msg(), take(2), take(3), take(1))
	lookAtApplied(t, em(), 1, msg(x, l, m), msg(x, l, field(3, in(msg()))), take(1, 3))
	for _, n := range append(elsewhere(), 2, 3) {
		lookAtRefused(t, em(), 1, with(msg(x), varint(9, 1)), api.ErrNone, take(n))
		lookAtRefused(t, em(), 1, msg(m), api.ErrNone, take(n, 3))
	}
	lookAtRefused(t, em(), 1, msg(x, l), api.ErrNone, take(2), take(2))
	lookAtRefused(t, em(), 1, msg(l, m), api.ErrNone, take(2, 3))
	lookAtRefused(t, em(), 1, msg(x), api.ErrNone, put(l), take(2), put(l), take(2), take(2))
}

// TestP21_2Keep has all of what is not known in place of what was there. What can't be is seen behind all steps.
func TestP21_2Keep(t *testing.T) {
	one, two := []api.Entry{varint(9, 1), chunk(1, "a")}, []api.Entry{{Number: 5, Kind: api.Fix64, N: 1}}
	x := msg(field(1, num(1)))
	inner := func(l ...api.Entry) api.Msg { return msg(field(3, in(unknown(l...)))) }
	lookAtApplied(t, em(), 1, x, with(x, one...), keep(one))
	lookAtApplied(t, em(), 1, with(x, one...), with(x, two...), keep(two))
	lookAtApplied(t, em(), 1, with(x, one...), x, keep(nil))
	lookAtApplied(t, em(), 1, with(x, one...), with(x, one...), keep(two), keep(one))
	lookAtApplied(t, em(), 1, with(inner(one...), one...), with(inner(two...), one...), keep(two, 3))
	for _, bad := range []api.Entry{{}, {Number: api.MaxNumber + 1}, {Number: -1}, {Number: 1, Kind: 3}, {Number: 1, B: []byte("a")}, {Number: 1, Kind: api.Fix32, N: 1 << 32}, {Number: 1, Kind: api.Chunk, N: 1}} {
		l := []api.Entry{varint(1, 1), bad}
		lookAtRefused(t, em(), 1, x, api.ErrType, keep(l))
		lookAtRefused(t, em(), 1, inner(one...), api.ErrType, keep(l, 3))
		lookAtApplied(t, em(), 1, x, with(x, one...), keep(l), keep(one))
		lookAtApplied(t, em(), 1, inner(one...), msg(), keep(l, 3), take(3))
		lookAtRefused(t, em(), 1, x, api.ErrNone, keep(l), take(9))
	}
}

// TestP21_2Oneofs has two members of one oneof: they may stand beside each other till all steps are done.
func TestP21_2Oneofs(t *testing.T) {
	low, high := field(11, num(0)), field(13, in(msg()))
	lookAtApplied(t, wide(), 1, msg(low), msg(high), put(high), take(11))
	lookAtApplied(t, wide(), 1, msg(high), msg(low), put(low), take(13))
	lookAtApplied(t, wide(), 1, msg(), msg(low), put(high), put(low), take(13))
	lookAtRefused(t, wide(), 1, msg(low), api.ErrType, put(high))
	lookAtRefused(t, wide(), 1, msg(), api.ErrType, put(high), put(low))
	lookAtRefused(t, wide(), 1, msg(low), api.ErrNone, put(high), take(14))
	inner := func(f ...api.Field) api.Msg { return msg(field(5, in(msg(field(5, in(msg(f...))))))) }
	lookAtApplied(t, wide(), 1, inner(low), inner(high), put(high, 5, 5), take(11, 5, 5))
	lookAtRefused(t, wide(), 1, inner(low), api.ErrType, put(high, 5, 5))
	lookAtApplied(t, wide(), 1, inner(low), msg(), put(high, 5, 5), take(5))
}

// TestP21_2Paths has paths of numbers that are none, of fields through which none goes, and of messages that are not there: of each step.
func TestP21_2Paths(t *testing.T) {
	full := msg(field(1, num(1)), field(2, num(1)), field(3, in(msg(field(1, num(1))))))
	steps := func(path ...int) []delta.Step {
		return []delta.Step{put(field(1, num(5)), path...), put(field(9), path...), take(1, path...), take(9, path...), keep(nil, path...), keep([]api.Entry{{}}, path...)}
	}
	refused := func(x api.Table, a api.Msg, path ...int) {
		t.Helper()
		for _, s := range steps(path...) {
			lookAtRefused(t, x, 1, a, api.ErrNone, s)
		}
	}
	for _, n := range append(elsewhere(), 1, 2) {
		refused(em(), full, n)
		refused(em(), full, 3, n)
		refused(em(), full, n, 3)
		refused(em(), nested(3, 3, full), 3, n, 3)
	}
	refused(em(), full, 3, 3)
	refused(em(), full, 3, 3, 3)
	refused(em(), msg(field(1, num(1))), 3)
	refused(em(), nested(3, 4, msg()), 3, 3, 3, 3, 3)
	w := msg(field(8, in(msg())), pairs(9, str(""), in(msg())), field(12, in(msg())), field(13, in(msg())))
	for _, n := range []int{4, 5, 8, 9, 12, 13} {
		refused(wide(), w, n)
	}
	lookAtApplied(t, em(), 1, nested(3, 4, full), nested(3, 4, msg(field(2, num(1)), full.Fields[2])), take(1, 3, 3, 3, 3))
	lookAtApplied(t, em(), 1, nested(3, 1000, full), nested(3, 1000, with(full, varint(9, 1))), keep([]api.Entry{varint(9, 1)}, slices.Repeat([]int{3}, 1000)...))
}

// TestP21_2Order has steps that see what those ahead of them did, in messages that were put in, taken out and put in again.
func TestP21_2Order(t *testing.T) {
	x, m := field(1, num(7)), field(3, in(msg()))
	lookAtApplied(t, em(), 1, msg(), msg(field(3, in(msg(x)))), put(m), put(x, 3))
	lookAtApplied(t, em(), 1, msg(), nested(3, 3, msg(x)), put(m), put(m, 3), put(m, 3, 3), put(x, 3, 3, 3))
	lookAtApplied(t, em(), 1, msg(), nested(3, 2, msg()), put(m), put(m, 3), put(x, 3), take(1, 3))
	lookAtApplied(t, em(), 1, nested(3, 2, msg(x)), msg(m), put(m), keep(nil, 3))
	lookAtApplied(t, em(), 1, nested(3, 1, msg(x)), nested(3, 1, msg(field(2))), take(3), put(m), put(field(2), 3))
	lookAtRefused(t, em(), 1, nested(3, 2, msg(x)), api.ErrNone, put(m), take(1, 3, 3))
	lookAtRefused(t, em(), 1, nested(3, 1, msg(x)), api.ErrNone, take(3), put(x, 3))
	lookAtRefused(t, em(), 1, nested(3, 1, msg(x)), api.ErrNone, put(m), take(1, 3))
	lookAtApplied(t, em(), 1, msg(), msg(field(1, num(3))), put(field(1, num(1))), put(field(1, num(2))), take(1), put(field(1, num(3))))
	twice := put(field(3, in(msg(x))))
	lookAtApplied(t, em(), 1, msg(), nested(3, 2, msg(x)), twice, take(1, 3), put(twice.F, 3))
	lookAtApplied(t, em(), 1, msg(), msg(twice.F), twice, take(1, 3), twice)
}

// TestP21_2Nothing has no steps, and steps in which something stands that is not asked.
func TestP21_2Nothing(t *testing.T) {
	m := with(msg(field(1, num(0)), field(2)), varint(1, 1))
	lookAtApplied(t, em(), 1, m, m)
	wild := samples.New(2102).Wild(3)
	more := delta.Step{Do: delta.Take, F: api.Field{Number: 1, Keys: []api.Val{{}}, Vals: []api.Val{in(wild)}}, E: []api.Entry{{}}}
	lookAtApplied(t, em(), 1, m, with(msg(field(2)), varint(1, 1)), more)
	more = delta.Step{Do: delta.Put, F: field(1, num(4)), E: []api.Entry{{}}}
	lookAtApplied(t, em(), 1, m, with(msg(field(1, num(4)), field(2)), varint(1, 1)), more)
	more = delta.Step{Do: delta.Keep, F: pairs(77, in(wild), in(wild)), E: nil}
	lookAtApplied(t, em(), 1, m, msg(field(1, num(0)), field(2)), more)
}

// TestP21_2First has steps with several faults: Do ahead of the path, the path ahead of what is done, one step ahead of the next one, all ahead of what comes of them.
func TestP21_2First(t *testing.T) {
	x := msg(field(1, num(1)))
	for _, do := range []int{0, -1, 4, 5, math.MinInt, math.MaxInt, 1 << 32, 1<<32 + 1} {
		for _, s := range []delta.Step{{Do: do}, {Do: do, Path: []int{9}}, {Do: do, Path: []int{3}, F: field(9)}, {Do: do, F: field(1, num(1)), E: []api.Entry{{}}}} {
			lookAtRefused(t, em(), 1, x, api.ErrArg, s)
			lookAtRefused(t, em(), 1, x, api.ErrArg, s, take(9), put(field(9)))
			lookAtRefused(t, em(), 1, x, api.ErrNone, take(9), s)
			lookAtRefused(t, em(), 1, x, api.ErrType, put(field(9)), s)
			lookAtRefused(t, em(), 1, x, api.ErrArg, keep([]api.Entry{{}}), s)
			lookAtRefused(t, em(), 1, msg(field(9)), api.ErrType, s)
		}
	}
	lookAtRefused(t, em(), 1, x, api.ErrNone, put(field(9), 3))
	lookAtRefused(t, em(), 1, x, api.ErrType, put(field(9)), put(field(1, num(1)), 3))
	lookAtRefused(t, em(), 1, x, api.ErrNone, put(field(1, num(1)), 3), put(field(9)))
	for _, bad := range []api.Msg{msg(field(9)), msg(field(1)), unknown(api.Entry{}), nested(3, 3, msg(field(9)))} {
		lookAtRefused(t, em(), 1, bad, api.ErrType)
		lookAtRefused(t, em(), 1, bad, api.ErrType, delta.Step{}, take(9))
		lookAtRefused(t, em(), 1, bad, api.ErrType, take(9), keep(nil), take(3))
	}
}
