package merge_test

import (
	"slices"
	"testing"

	"cartouche/api"
	"cartouche/merge"
	"cartouche/samples"
)

func TestP10_2Examples(t *testing.T) {
	x := field(1, num(1))
	lookAtValue(t, em(), 1, msg(field(3, in(msg(x)))), "m.x", x, api.OK)
	lookAtValue(t, em(), 1, msg(x), "m.x", api.Field{}, api.ErrNone)
	lookAtValue(t, em(), 1, msg(x), "x.y", api.Field{}, api.ErrName)
	m := msg(x, field(3, in(msg(field(1, num(2)), field(2, num(3))))))
	lookAtMask(t, em(), 1, m, []string{"m.x"}, msg(field(3, in(msg(field(1, num(2)))))), msg(x, field(3, in(msg(field(2, num(3)))))))
}

// full is a message of the table wide in which there is a field of each label; its messages within have what is not known.
func full() api.Msg {
	one, two := varint(99, 1), chunk(98, "a")
	leaf := with(msg(field(1, num(3)), field(6, num(4), num(5))), two)
	v := with(msg(field(2, num(1)), field(5, in(leaf))), one)
	return with(msg(
		field(1, num(-1)), field(2, str("t")), field(4, num(0)), field(5, in(v)), field(6), field(8, in(leaf), in(msg())),
		pairs(9, str(""), in(v), str("k"), in(unknown(one))), pairs(10, num(-1), num(5)), field(11, num(0)), field(12, in(leaf)), field(api.MaxNumber, str("l")),
	), two, one)
}

func TestP10_2Value(t *testing.T) {
	m := full()
	v := m.Fields[3].Vals[0].M[0]
	for path, want := range map[string]api.Field{
		"plain": m.Fields[0], "text": m.Fields[1], "optional": m.Fields[2], "within": m.Fields[3], "repeated": m.Fields[4], "list": m.Fields[5], "map": m.Fields[6], "numbers": m.Fields[7], "a1": m.Fields[8], "b1": m.Fields[9], "last": m.Fields[10],
		"within.x": v.Fields[0], "within.w": v.Fields[1], "within.w.plain": field(1, num(3)), "within.w.repeated": field(6, num(4), num(5)),
	} {
		lookAtValue(t, wide(), 1, m, path, want, api.OK)
	}
	for _, path := range []string{"symbol", "packed", "a2", "b2", "within.w.text", "within.w.list", "within.w.within", "within.w.within.x", "within.w.within.w", "within.w.within.w.within.w.a1"} {
		lookAtValue(t, wide(), 1, m, path, api.Field{}, api.ErrNone)
	}
	empty := msg(field(5, in(msg())))
	lookAtValue(t, wide(), 1, empty, "within", empty.Fields[0], api.OK)
	lookAtValue(t, wide(), 1, empty, "within.x", api.Field{}, api.ErrNone)
	lookAtValue(t, wide(), 1, unknown(varint(1, 5)), "plain", api.Field{}, api.ErrNone)
	deep := samples.Nested(3, 9, msg(field(1, num(7))))
	lookAtValue(t, em(), 1, deep, "m.m.m.m.m.m.m.m.m.x", field(1, num(7)), api.OK)
	lookAtValue(t, em(), 1, deep, "m.m.m.m.m.m.m.m.x", api.Field{}, api.ErrNone)
	lookAtValue(t, em(), 1, deep, "m.m.m.m.m.m.m.m.m.m.x", api.Field{}, api.ErrNone)
}

// TestErrName has paths that are none, by themselves and among others, whatever the message has.
func TestErrName(t *testing.T) {
	for _, bad := range []string{
		"", ".", "..", " ", "x", "Plain", "plain ", " plain", "plai", "plainn", "plain\x00", "plain,text", "W", "W.plain", "E", "A", "1", "5", "a", "b", "plain.", ".plain", "within.", ".within", "within..x", "within.x.", "within. x", "within.plain", "within.within", "within.w.", "within.w..plain", "within.w.x",
		"plain.x", "text.x", "symbol.A", "optional.x", "repeated.x", "packed.x", "list.plain", "list.within.x", "map.x", "map.key", "map.w.plain", "numbers.x", "a1.x", "a2.x", "a2.w", "b1.plain", "b2.x", "last.x", "within.w.list.plain", "within.w.b1.plain", "within.x.w", "within.w.within.plain", "within/x", "within\\.x", "\xff", "within.\u00e9",
	} {
		for _, m := range []api.Msg{msg(), full(), unknown(varint(1, 1))} {
			lookAtValue(t, wide(), 1, m, bad, api.Field{}, api.ErrName)
			for _, mask := range [][]string{{bad}, {bad, "plain"}, {"plain", bad}, {"within", "within.x", bad, "last"}, {bad, bad}} {
				kept, e := merge.Keep(wide(), 1, m, mask)
				left, e2 := merge.Drop(wide(), 1, m, mask)
				if e != api.ErrName || e2 != api.ErrName || told(kept) != "{}" || told(left) != "{}" {
					t.Errorf("%q: Keep tells %s, error %d, Drop %s, error %d", mask, told(kept), e, told(left), e2)
				}
			}
		}
	}
	lookAtValue(t, api.Table{Types: []api.Type{{Name: "M"}}}, 0, msg(), "x", api.Field{}, api.ErrName)
}

// TestP10_2Whole has masks of names alone: each field by itself, none, and all.
func TestP10_2Whole(t *testing.T) {
	m := full()
	lookAtMask(t, wide(), 1, m, nil, msg(), m)
	var all []string
	for _, f := range wide().Types[1].Fields {
		all = append(all, f.Name)
		i := slices.IndexFunc(m.Fields, func(o api.Field) bool { return o.Number == f.Number })
		if i < 0 {
			lookAtMask(t, wide(), 1, m, []string{f.Name}, msg(), m)
			continue
		}
		rest := slices.Delete(slices.Clone(m.Fields), i, i+1)
		lookAtMask(t, wide(), 1, m, []string{f.Name}, msg(m.Fields[i]), with(msg(rest...), m.Unknown...))
	}
	lookAtMask(t, wide(), 1, m, all, msg(m.Fields...), unknown(m.Unknown...))
	lookAtMask(t, wide(), 1, msg(), all, msg(), msg())
	lookAtMask(t, wide(), 1, unknown(m.Unknown...), all, msg(), unknown(m.Unknown...))
	lookAtMask(t, wide(), 1, unknown(m.Unknown...), nil, msg(), unknown(m.Unknown...))
}

// TestP10_2Within has masks with paths that go into messages.
func TestP10_2Within(t *testing.T) {
	opt := func(m api.Msg) api.Field { return field(3, in(m)) }
	x, l := field(1, num(1)), field(2, num(2), num(3))
	u, w := varint(99, 1), chunk(98, "a")
	two := msg(x, opt(msg(x, l)))
	deep := with(msg(x, opt(with(msg(x, opt(with(msg(x, l), u))), w))), u, w)
	bare := msg(x, opt(msg(x, opt(msg(x, l)))))
	hollow := with(msg(opt(unknown(u))), w)
	for _, row := range []struct {
		m          api.Msg
		mask       []string
		kept, left api.Msg
	}{
		{two, []string{"m", "m.x"}, msg(opt(msg(x, l))), msg(x)},
		{two, []string{"m.x", "m.l"}, msg(opt(msg(x, l))), msg(x, opt(msg()))},
		{two, []string{"x", "m.l"}, msg(x, opt(msg(l))), msg(opt(msg(x)))},
		{two, []string{"m.m"}, msg(opt(msg())), two},
		{two, []string{"m.m.x"}, msg(opt(msg())), two},
		{two, []string{"m.m.m.m.m.m.x"}, msg(opt(msg())), two},
		{two, []string{"l"}, msg(), two},
		{msg(x), []string{"m"}, msg(), msg(x)},
		{msg(x), []string{"m.x"}, msg(), msg(x)},
		{msg(x), []string{"m.x", "x"}, msg(x), msg()},
		{msg(opt(msg())), []string{"m.x"}, msg(opt(msg())), msg(opt(msg()))},
		{msg(opt(msg())), []string{"m"}, msg(opt(msg())), msg()},
		{bare, []string{"m.m.x"}, msg(opt(msg(opt(msg(x))))), msg(x, opt(msg(x, opt(msg(l)))))},
		{bare, []string{"m.m.x", "m.x"}, msg(opt(msg(x, opt(msg(x))))), msg(x, opt(msg(opt(msg(l)))))},
		{bare, []string{"m.m.x", "m.m"}, msg(opt(msg(opt(msg(x, l))))), msg(x, opt(msg(x)))},
		{bare, []string{"m.m.x", "m"}, msg(opt(msg(x, opt(msg(x, l))))), msg(x)},
		{bare, []string{"m.m.x", "m.m.l", "x"}, msg(x, opt(msg(opt(msg(x, l))))), msg(opt(msg(x, opt(msg()))))},
		{bare, []string{"m.m.m.x", "m.x"}, msg(opt(msg(x, opt(msg())))), msg(x, opt(msg(opt(msg(x, l)))))},
		{deep, nil, msg(), deep},
		{deep, []string{"m"}, msg(deep.Fields[1]), with(msg(x), u, w)},
		{deep, []string{"m.x"}, msg(opt(msg(x))), with(msg(x, opt(with(msg(opt(with(msg(x, l), u))), w))), u, w)},
		{deep, []string{"m.m"}, msg(opt(msg(opt(with(msg(x, l), u))))), with(msg(x, opt(with(msg(x), w))), u, w)},
		{deep, []string{"m.m.x"}, msg(opt(msg(opt(msg(x))))), with(msg(x, opt(with(msg(x, opt(with(msg(l), u))), w))), u, w)},
		{deep, []string{"x", "l", "m.x", "m.l", "m.m.x", "m.m.l", "m.m.m"}, bare, with(msg(opt(with(msg(opt(unknown(u))), w))), u, w)},
		{deep, []string{"x", "l", "m"}, msg(deep.Fields...), unknown(u, w)},
		{hollow, []string{"m"}, msg(opt(unknown(u))), unknown(w)},
		{hollow, []string{"m.x"}, msg(opt(msg())), hollow},
		{hollow, []string{"m.x", "m"}, msg(opt(unknown(u))), unknown(w)},
	} {
		lookAtMask(t, em(), 1, row.m, row.mask, row.kept, row.left)
	}
}

// TestP10_2Labels has paths through several types, and lists, maps and members at their ends: those are kept or dropped whole.
func TestP10_2Labels(t *testing.T) {
	m := full()
	v := m.Fields[3].Vals[0].M[0]
	leaf := v.Fields[1].Vals[0].M[0]
	in5 := func(m api.Msg) api.Field { return field(5, in(m)) }
	around := func(inner api.Field) api.Msg {
		out := with(msg(slices.Clone(m.Fields)...), m.Unknown...)
		out.Fields[3] = inner
		return out
	}
	for _, row := range []struct {
		mask       []string
		kept, left api.Msg
	}{
		{[]string{"within.x"}, msg(in5(msg(v.Fields[0]))), around(in5(with(msg(v.Fields[1]), v.Unknown...)))},
		{[]string{"within.w"}, msg(in5(msg(v.Fields[1]))), around(in5(with(msg(v.Fields[0]), v.Unknown...)))},
		{[]string{"within.w.repeated"}, msg(in5(msg(in5(msg(leaf.Fields[1]))))), around(in5(with(msg(v.Fields[0], in5(with(msg(leaf.Fields[0]), leaf.Unknown...))), v.Unknown...)))},
		{[]string{"within.w.map", "within.x"}, msg(in5(msg(v.Fields[0], in5(msg())))), around(in5(with(msg(v.Fields[1]), v.Unknown...)))},
		{[]string{"within.w.b1"}, msg(in5(msg(in5(msg())))), m},
	} {
		lookAtMask(t, wide(), 1, m, row.mask, row.kept, row.left)
	}
	whole := msg(m.Fields[5], m.Fields[6], m.Fields[8], m.Fields[9])
	lookAtMask(t, wide(), 1, m, []string{"b1", "list", "a1", "map", "a2"}, whole, with(msg(slices.Concat(m.Fields[:5], m.Fields[7:8], m.Fields[10:])...), m.Unknown...))
}

func TestP10_3Paths(t *testing.T) {
	x, l := field(1, num(1)), field(2)
	opt := func(m api.Msg) api.Field { return field(3, in(m)) }
	lookAtPaths(t, em(), 1, msg(x, l, opt(msg(field(1, num(2))))), "x", "l", "m.x")
	lookAtPaths(t, em(), 1, msg())
	lookAtPaths(t, em(), 1, unknown(varint(1, 1)))
	lookAtPaths(t, em(), 1, msg(field(1, num(0))), "x")
	lookAtPaths(t, em(), 1, msg(opt(msg())), "m")
	lookAtPaths(t, em(), 1, msg(opt(unknown(varint(1, 1)))), "m")
	lookAtPaths(t, em(), 1, msg(opt(msg(l))), "m.l")
	lookAtPaths(t, em(), 1, msg(opt(msg(opt(msg())))), "m.m")
	lookAtPaths(t, em(), 1, msg(x, opt(msg(x, l, opt(msg(x, l, opt(msg())))))), "x", "m.x", "m.l", "m.m.x", "m.m.l", "m.m.m")
	lookAtPaths(t, em(), 1, samples.Nested(3, 9, msg(x)), "m.m.m.m.m.m.m.m.m.x")
	lookAtPaths(t, wide(), 1, full(), "plain", "text", "optional", "within.x", "within.w.plain", "within.w.repeated", "repeated", "list", "map", "numbers", "a1", "b1", "last")
	lookAtPaths(t, wide(), 1, msg(field(12, in(full())), field(13, in(msg(field(2, num(1)))))), "b1", "a2")
	lookAtPaths(t, wide(), 2, msg(field(2, num(1)), field(5, in(msg(field(5, in(msg())), field(6))))), "x", "w.within", "w.repeated")
}
