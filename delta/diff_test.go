package delta_test

import (
	"slices"
	"testing"

	"cartouche/api"
	"cartouche/delta"
	"cartouche/samples"
)

func TestP21_1Examples(t *testing.T) {
	x := field(1, num(1))
	m := func(n int64) api.Field { return field(3, in(msg(field(1, num(n))))) }
	lookAtDiff(t, em(), 1, msg(x, m(2)), msg(x, field(2, num(3)), m(5)), put(field(2, num(3))), put(field(1, num(5)), 3))
	lookAtDiff(t, em(), 1, msg(x), unknown(varint(9, 1)), take(1), keep([]api.Entry{varint(9, 1)}))
}

// lookAtPair sees the steps between two fields of one number, both ways, where either may lack; a path does not go on through it.
func lookAtPair(t *testing.T, x api.Table, index int, f, g api.Field) {
	t.Helper()
	lookAtDiff(t, x, index, msg(f), msg(f))
	lookAtDiff(t, x, index, msg(), msg(g), put(g))
	lookAtDiff(t, x, index, msg(g), msg(), take(g.Number))
	if told(msg(f)) != told(msg(g)) {
		lookAtDiff(t, x, index, msg(f), msg(g), put(g))
		lookAtDiff(t, x, index, msg(g), msg(f), put(f))
	}
}

// TestP21_1Values has a field of each kind and label with each two of the values that it may have: none, one, several.
func TestP21_1Values(t *testing.T) {
	for _, x := range samples.Singles() {
		f := x.Types[around].Fields[0]
		if goesOn(f) {
			continue
		}
		good, _ := samples.Values(f.Kind)
		var l []api.Field
		switch f.Label {
		case api.Repeated, api.Packed:
			l = append(l, field(number), field(number, good...), field(number, good[1:]...), field(number, good[1], good[0]), field(number, good[0], good[1]), field(number, good[0], good[1], good[1]))
		case api.Map:
			keys := samples.Rising(f.Key)
			l = append(l, field(number), pairs(number, keys[0], good[0]), pairs(number, keys[0], good[1]), pairs(number, keys[1], good[0]), pairs(number, keys[0], good[0], keys[1], good[0]), pairs(number, keys[0], good[0], keys[1], good[1]))
		default:
			for _, v := range good {
				l = append(l, field(number, v))
			}
		}
		for _, f := range l {
			for _, g := range l {
				lookAtPair(t, x, around, f, g)
			}
		}
	}
}

// TestP21_1Defaults has what is there, though it is what would be there without it: it is not the same as what is not there.
func TestP21_1Defaults(t *testing.T) {
	for _, f := range []api.Field{field(1, num(0)), field(2), field(3, in(msg()))} {
		lookAtPair(t, em(), 1, f, f)
	}
	lookAtDiff(t, em(), 1, msg(field(1, num(0)), field(2)), msg(field(3, in(msg()))), take(1), take(2), put(field(3, in(msg()))))
	lookAtDiff(t, em(), 1, api.Msg{Fields: []api.Field{{Number: 1, Keys: []api.Val{}, Vals: []api.Val{{B: []byte{}, M: []api.Msg{}}}}}, Unknown: []api.Entry{}}, msg(field(1, num(0))))
}

// TestP21_1Within has messages that are Optional: the steps between them, the numbers ahead of their paths.
func TestP21_1Within(t *testing.T) {
	x := func(n int64) api.Field { return field(1, num(n)) }
	two := func(n int64, inner api.Msg) api.Msg { return msg(x(n), field(3, in(inner))) }
	rest := []api.Entry{varint(9, 1)}
	lookAtDiff(t, em(), 1, two(1, msg()), two(1, msg()))
	lookAtDiff(t, em(), 1, two(1, msg()), two(1, msg(x(2))), put(x(2), 3))
	lookAtDiff(t, em(), 1, two(1, msg(x(2))), two(1, msg()), take(1, 3))
	lookAtDiff(t, em(), 1, two(1, msg(x(2))), two(1, unknown(rest...)), take(1, 3), keep(rest, 3))
	lookAtDiff(t, em(), 1, two(1, unknown(rest...)), two(1, msg()), keep(nil, 3))
	lookAtDiff(t, em(), 1, two(1, two(2, two(3, msg()))), two(4, two(2, two(5, msg(x(6))))), put(x(4)), put(x(5), 3, 3), put(x(6), 3, 3, 3))
	lookAtDiff(t, em(), 1, two(1, two(2, two(3, msg()))), two(1, two(2, msg())), take(1, 3, 3), take(3, 3, 3))
	lookAtDiff(t, em(), 1, two(1, two(2, msg())), two(1, two(2, two(3, msg()))), put(x(3), 3, 3), put(field(3, in(msg())), 3, 3))
	lookAtDiff(t, em(), 1, msg(), two(1, two(2, msg())), put(x(1)), put(field(3, in(two(2, msg())))))
	for _, depth := range []int{1, 2, 15, 16, 17, 100} {
		path := slices.Repeat([]int{3}, depth)
		lookAtDiff(t, em(), 1, nested(3, depth, msg(x(1))), nested(3, depth, with(msg(field(2, num(1))), rest...)), take(1, path...), put(field(2, num(1)), path...), keep(rest, path...))
	}
}

// TestP21_1Paths has paths through fields of several numbers and types, each of which has its own path at the end.
func TestP21_1Paths(t *testing.T) {
	x := samples.Crossed()
	n := func(n int64) api.Field { return field(1, num(n)) }
	a := msg(n(1), field(2, in(msg(n(1), field(2, in(msg(n(1)))), field(3, in(msg()))))), field(3, in(msg(field(1, in(msg())), field(2, in(msg()))))))
	b := msg(n(2), field(2, in(msg(n(2), field(2, in(msg(n(2)))), field(3, in(msg(field(9))))))), field(3, in(msg(field(1, in(msg(field(9)))), field(2, in(msg(n(2))))))))
	lookAtDiff(t, x, 0, a, b, put(n(2)), put(n(2), 2), put(n(2), 2, 2), put(field(9), 2, 3), put(field(9), 3, 1), put(n(2), 3, 2))
	lookAtDiff(t, x, 0, b, a, put(n(1)), put(n(1), 2), put(n(1), 2, 2), take(9, 2, 3), take(9, 3, 1), take(1, 3, 2))
	within := func(n int64, l ...api.Entry) api.Msg {
		return msg(field(5, in(with(msg(field(2, num(n)), field(5, in(with(msg(field(1, num(n))), l...)))), l...))))
	}
	one, two := []api.Entry{varint(99, 1)}, []api.Entry{varint(99, 1), varint(99, 2)}
	lookAtDiff(t, wide(), 1, within(1, one...), within(2, two...), put(field(2, num(2)), 5), put(field(1, num(2)), 5, 5), keep(two, 5, 5), keep(two, 5))
}

// TestP21_1Whole has messages in other fields: they are put whole, however little of them is another one.
func TestP21_1Whole(t *testing.T) {
	five, six := in(msg(field(2, num(5)))), in(msg(field(2, num(6))))
	w := func(n int64) api.Val { return in(msg(field(1, num(n)), field(4, num(1)))) }
	for _, row := range [][2]api.Field{
		{field(8, w(1), w(2)), field(8, w(1), w(3))}, {field(8, w(1)), field(8, w(1), in(msg()))}, {field(8, w(1)), field(8)}, {pairs(9, str("a"), five, str("b"), five), pairs(9, str("a"), five, str("b"), six)},
		{pairs(9, str("a"), five), pairs(9, str("b"), five)}, {field(12, w(1)), field(12, w(2))}, {field(13, five), field(13, six)}, {field(13, five), field(13, in(unknown(varint(1, 1))))},
	} {
		lookAtPair(t, wide(), 1, row[0], row[1])
		inner := func(f api.Field) api.Msg { return msg(field(5, in(msg(field(5, in(msg(f))))))) }
		lookAtDiff(t, wide(), 1, inner(row[0]), inner(row[1]), put(row[1], 5, 5))
	}
}

// TestP21_1Oneofs has members of one oneof in turn: one goes, another one comes, in the order of their numbers.
func TestP21_1Oneofs(t *testing.T) {
	low, high, other := field(11, num(0)), field(13, in(msg())), field(12, in(msg()))
	lookAtDiff(t, wide(), 1, msg(low), msg(high), take(11), put(high))
	lookAtDiff(t, wide(), 1, msg(high), msg(low), put(low), take(13))
	lookAtDiff(t, wide(), 1, msg(low, other), msg(other, high), take(11), put(high))
	lookAtDiff(t, wide(), 1, msg(high, field(14, str("a"))), msg(low, other), put(low), put(other), take(13), take(14))
}

// TestP21_1Unknown has what is not known: Keep tells it whole, last of all steps of that message, whatever is another one in it.
func TestP21_1Unknown(t *testing.T) {
	lists := [][]api.Entry{
		nil, {varint(9, 1)}, {varint(9, 2)}, {varint(8, 1)}, {chunk(9, "")}, {chunk(9, "a")}, {chunk(9, "b")}, {chunk(9, "ab")}, {{Number: 9, Kind: api.Fix32, N: 1}}, {{Number: 9, Kind: api.Fix64, N: 1}},
		{varint(9, 1), varint(9, 1)}, {varint(9, 1), varint(8, 1)}, {varint(8, 1), varint(9, 1)}, {chunk(9, "a"), varint(9, 1), chunk(9, "a")}, {varint(1, 5)}, {chunk(3, "\xff")}, {varint(api.MaxNumber, 1<<64-1)},
	}
	f := field(3, in(msg(field(1, num(1)))))
	for i, one := range lists {
		for j, two := range lists {
			if i == j {
				lookAtDiff(t, em(), 1, unknown(one...), unknown(two...))
				lookAtDiff(t, em(), 1, unknown(one...), with(msg(f), one...), put(f))
				continue
			}
			lookAtDiff(t, em(), 1, unknown(one...), unknown(two...), keep(two))
			lookAtDiff(t, em(), 1, unknown(one...), with(msg(f), two...), put(f), keep(two))
			inner := msg(field(3, in(unknown(varint(77, 1)))))
			lookAtDiff(t, em(), 1, with(inner, one...), with(msg(f), two...), put(field(1, num(1)), 3), keep(nil, 3), keep(two))
		}
	}
}

// TestP21_1Rising has messages of all fields of W, with each one in a alone, in b alone, in both, or in none: the steps are in the order of their numbers.
func TestP21_1Rising(t *testing.T) {
	fields := []api.Field{
		field(1, num(1)), field(2, str("a")), field(3, num(5)), field(4, num(0)), field(6, num(1), num(2)), field(7, num(1)), field(8, in(msg())), pairs(9, str(""), in(msg())), pairs(10, num(1), num(5)), field(11, num(1)), field(12, in(msg())), field(api.MaxNumber, str("z")),
	}
	m := samples.New(2101)
	for range 500 {
		var a, b api.Msg
		var want []delta.Step
		for _, f := range fields {
			where := m.Below(4)
			if where%2 == 1 {
				a.Fields = append(a.Fields, f)
			}
			if where/2 == 1 {
				b.Fields = append(b.Fields, f)
			}
			switch where {
			case 1:
				want = append(want, take(f.Number))
			case 2:
				want = append(want, put(f))
			}
		}
		lookAtDiff(t, wide(), 1, a, b, want...)
	}
}

// TestP21_1Errors has messages that are not typed, either of them or both.
func TestP21_1Errors(t *testing.T) {
	good := msg(field(1, num(1)))
	for _, bad := range []api.Msg{
		msg(field(9)), msg(field(1)), msg(field(1, num(1), num(2))), msg(field(1, num(1<<31))), msg(field(2, num(1)), field(1, num(1))), msg(field(1, num(1)), field(1, num(1))), msg(pairs(1, num(1), num(1))), unknown(api.Entry{}),
		nested(3, 5, msg(field(9))), msg(field(3, in(msg(), msg()))), msg(field(3, in())), unknown(api.Entry{Number: 1, Kind: 3}),
	} {
		for _, row := range [][2]api.Msg{{bad, good}, {good, bad}, {bad, bad}, {bad, msg()}, {msg(), bad}} {
			if l, e := delta.Diff(em(), 1, row[0], row[1]); e != api.ErrType || len(l) > 0 {
				t.Errorf("Diff(%s; %s): %s, error %d", told(row[0]), told(row[1]), toldSteps(l), e)
			}
		}
	}
	if l, e := delta.Diff(wide(), 1, msg(field(11, num(1)), field(13, in(msg()))), msg()); e != api.ErrType || len(l) > 0 {
		t.Errorf("two of a oneof: %s, error %d", toldSteps(l), e)
	}
}
