package model_test

import (
	"math"
	"testing"

	"cartouche/api"
	"cartouche/model"
)

func TestP8_2Get(t *testing.T) {
	odd := api.Msg{Fields: []api.Field{
		{Number: 3, Keys: []api.Val{str("k")}, Vals: []api.Val{num(1), in(msg(field(3, num(9))))}},
		field(3, num(2)), field(1, str("a")), field(0), field(-5, num(4)), field(math.MaxInt, num(5)),
	}, Unknown: []api.Entry{varint(7, 1)}}
	for _, row := range []struct {
		number int
		want   api.Field
		ok     bool
	}{
		{3, odd.Fields[0], true}, {1, odd.Fields[2], true}, {0, api.Field{}, true}, {-5, odd.Fields[4], true}, {math.MaxInt, odd.Fields[5], true},
		{2, api.Field{}, false}, {7, api.Field{}, false}, {9, api.Field{}, false}, {math.MinInt, api.Field{}, false},
	} {
		f, ok := model.Get(odd, row.number)
		lookAtMessage(t, "Get", msg(f), msg(row.want))
		if ok != row.ok {
			t.Errorf("Get of %d: %v", row.number, ok)
		}
	}
	if f, ok := model.Get(msg(), 0); ok || told(msg(f)) != "{0[]}" {
		t.Errorf("Get of the empty message: %v", f)
	}
}

func TestP8_2Clear(t *testing.T) {
	a, b, c := field(3, num(1)), field(3, in(msg(field(1, num(1))))), field(1, str("a"))
	none := field(0, num(2))
	rest := []api.Entry{varint(3, 1), chunk(1, "a")}
	odd := api.Msg{Fields: []api.Field{a, c, b, none, c}, Unknown: rest}
	for _, row := range []struct {
		number int
		want   []api.Field
	}{
		{3, []api.Field{c, none, c}}, {1, []api.Field{a, b, none}}, {0, []api.Field{a, c, b, c}}, {2, odd.Fields}, {-1, odd.Fields}, {math.MaxInt, odd.Fields},
	} {
		lookAtMessage(t, "Clear", model.Clear(odd, row.number), api.Msg{Fields: row.want, Unknown: rest})
	}
	lookAtMessage(t, "Clear of the only one", model.Clear(msg(a), 3), msg())
	lookAtMessage(t, "Clear of the empty message", model.Clear(msg(), 3), msg())
	lookAtMessage(t, "Clear goes not within", model.Clear(msg(field(1, in(msg(a)))), 3), msg(field(1, in(msg(a)))))
}

func lookAtSet(t *testing.T, m api.Msg, f api.Field, want api.Msg, wantE api.Errno) {
	t.Helper()
	got, e := model.Set(wide(), 1, m, f)
	if e != wantE || told(got) != told(want) {
		t.Errorf("Set(%s, %s): %s, error %d; want %s, error %d", told(m), told(msg(f)), told(got), e, told(want), wantE)
	}
	if e == api.OK {
		back, ok := model.Get(got, f.Number)
		if !ok || told(msg(back)) != told(msg(f)) {
			t.Errorf("Get of what Set(%s, %s) told: %s", told(m), told(msg(f)), told(msg(back)))
		}
	}
}

// eachField are fields of the type 1 of the table wide, of each label, two of each number, but the members of the oneofs.
func eachField() [][2]api.Field {
	return [][2]api.Field{
		{field(1, num(-1)), field(1, num(0))},
		{field(2, str("a")), field(2, str(""))},
		{field(3, num(5)), field(3, num(0))},
		{field(4, num(0)), field(4, num(1))},
		{field(5, in(msg(field(2, num(1))))), field(5, in(unknown(varint(2, 2))))},
		{field(6, num(1), num(1)), field(6)},
		{field(7), field(7, num(1<<40))},
		{field(8, in(msg()), in(msg(field(8)))), field(8, in(unknown(varint(1, 1))))},
		{pairs(9, str("a"), in(msg()), str("b"), in(msg(field(2, num(0))))), field(9)},
		{field(10), pairs(10, num(-5), num(5), num(7), num(0))},
		{field(api.MaxNumber, str("\xff")), field(api.MaxNumber, str(""))},
	}
}

func TestP8_2Set(t *testing.T) {
	rest := []api.Entry{varint(1, 1), chunk(20, "a")} // typed, though taken
	all := eachField()
	for i, own := range all {
		without := api.Msg{Unknown: rest}
		for j, f := range all {
			if i != j {
				without.Fields = append(without.Fields, f[0])
			}
		}
		for _, now := range own {
			with := copyOf(without)
			with.Fields = append(append(append([]api.Field{}, without.Fields[:i]...), now), without.Fields[i:]...)
			lookAtSet(t, without, now, with, api.OK)
			lookAtSet(t, msg(), now, msg(now), api.OK)
			lookAtSet(t, unknown(rest...), now, api.Msg{Fields: []api.Field{now}, Unknown: rest}, api.OK)
			for _, was := range own {
				before := copyOf(with)
				before.Fields[i] = was
				lookAtSet(t, before, now, with, api.OK)
				lookAtSet(t, msg(was), now, msg(now), api.OK)
			}
		}
	}
}

func TestP8_2SetMembers(t *testing.T) {
	a1, b1, a2, b2 := field(11, num(0)), field(12, in(msg(field(1, num(1))))), field(13, in(msg())), field(14, str(""))
	x, y := field(10), field(api.MaxNumber, str("z"))
	for _, row := range []struct{ before, f, want []api.Field }{
		{[]api.Field{a1}, []api.Field{a2}, []api.Field{a2}},
		{[]api.Field{a2}, []api.Field{a1}, []api.Field{a1}},
		{[]api.Field{a1}, []api.Field{b1}, []api.Field{a1, b1}},
		{[]api.Field{a2}, []api.Field{b1}, []api.Field{b1, a2}},
		{[]api.Field{b1, a2}, []api.Field{b2}, []api.Field{a2, b2}},
		{[]api.Field{b1, a2}, []api.Field{a1}, []api.Field{a1, b1}},
		{[]api.Field{a1, b2}, []api.Field{b1}, []api.Field{a1, b1}},
		{[]api.Field{x, a1, b2, y}, []api.Field{a2}, []api.Field{x, a2, b2, y}},
		{[]api.Field{x, a2, b2, y}, []api.Field{a1}, []api.Field{x, a1, b2, y}},
		{[]api.Field{x, a1, b2, y}, []api.Field{field(11, num(7))}, []api.Field{x, field(11, num(7)), b2, y}},
		{[]api.Field{b1}, []api.Field{field(12, in(msg()))}, []api.Field{field(12, in(msg()))}},
		{[]api.Field{a1, b1}, []api.Field{x}, []api.Field{x, a1, b1}},
		{[]api.Field{a1, b1}, []api.Field{field(1, num(1))}, []api.Field{field(1, num(1)), a1, b1}},
	} {
		lookAtSet(t, msg(row.before...), row.f[0], msg(row.want...), api.OK)
	}
}

func TestP8_2SetRefused(t *testing.T) {
	good := msg(field(1, num(1)), field(11, num(1)), field(14, str("")))
	for _, f := range []api.Field{
		field(0), field(-1, num(1)), field(15, num(1)), field(api.MaxNumber+1, num(1)), field(math.MinInt), field(math.MaxInt, str("")),
		field(1), field(1, num(1), num(2)), field(2, str("\xff")), field(3, num(1)), field(4, num(2)), field(5), field(5, num(0)), field(5, in(msg(), msg())), field(5, in(msg(field(1, num(1))))),
		field(6, num(1), num(1<<32)), field(8, in(good), in(msg(field(1)))), field(9, in(msg())), pairs(9, str("b"), in(msg()), str("a"), in(msg())), pairs(10, num(1), num(0), num(1), num(0)), pairs(10, num(1), num(3)),
		pairs(4, num(0), num(1)), pairs(6, num(0), num(1)), field(11), field(11, num(1<<31)), field(13, num(1)), field(12), field(14, num(1)),
	} {
		lookAtSet(t, good, f, msg(), api.ErrType)
		lookAtSet(t, msg(), f, msg(), api.ErrType)
		lookAtSet(t, msg(f), f, msg(), api.ErrType)
	}
	for _, m := range []api.Msg{
		msg(field(1)), msg(field(1, str("a"))), msg(field(15, num(1))), msg(field(4, num(1)), field(1, num(1))), msg(field(1, num(1)), field(1, num(1))),
		msg(field(11, num(1)), field(13, in(msg()))), unknown(varint(0, 1)), msg(field(5, in(msg(field(5, in(msg(field(1))))))))} {
		for _, f := range []api.Field{field(1, num(1)), field(4, num(1)), field(5, in(msg())), field(11, num(1)), field(13, in(msg())), field(15, num(1))} {
			lookAtSet(t, m, f, msg(), api.ErrType) // even where f would stand in place of what is wrong
		}
	}
}

func lookAtSettled(t *testing.T, x api.Table, index int, m, want api.Msg) {
	t.Helper()
	got, e := model.Settle(x, index, m)
	if e != api.OK || told(got) != told(want) {
		t.Errorf("Settle(%s): %s, error %d; want %s", told(m), told(got), e, told(want))
	}
	if ok, e := model.Normal(x, index, got); !ok || e != api.OK {
		t.Errorf("Settle(%s): %s is not normal", told(m), told(got))
	}
}

func TestP8_3Settle(t *testing.T) {
	lookAtSettled(t, em(), 1, msg(field(1, num(0)), field(2)), msg()) // the chapter's example
	both := eachField()
	var all, left api.Msg
	for i := range both {
		all.Fields = append(all.Fields, both[i][1])
	}
	all.Fields = append(all.Fields[:10:10], field(11, num(0)), field(14, str("")), all.Fields[10])
	all.Unknown = []api.Entry{varint(2, 1), varint(1, 1), chunk(20, "a"), chunk(1, ""), chunk(6, ""), {Number: 6, Kind: api.Fix32}, {Number: 6, Kind: api.Fix64}, chunk(9, ""), varint(9, 4), varint(20, 0), chunk(api.MaxNumber, "")}
	left.Fields = []api.Field{both[3][1], both[4][1], both[6][1], field(8, in(msg())), both[9][1], field(11, num(0)), field(14, str(""))}
	left.Unknown = []api.Entry{varint(2, 1), chunk(20, "a"), chunk(1, ""), {Number: 6, Kind: api.Fix64}, varint(9, 4), varint(20, 0)}
	lookAtSettled(t, wide(), 1, all, left)
	ofW, _ := wraps()
	for _, outer := range ofW {
		for _, inner := range ofW {
			lookAtSettled(t, wide(), 1, outer(inner(all)), outer(inner(left)))
		}
	}
	for i := range both { // what is told stays, what is not goes, each by itself
		for _, f := range both[i] {
			want := msg(f)
			if ok, _ := model.Normal(wide(), 1, want); ok {
				lookAtSettled(t, wide(), 1, want, want)
			}
		}
	}
	for _, f := range []api.Field{field(1, num(0)), field(2, str("")), field(3, num(0)), field(6), field(7), field(8), field(9), field(10), field(api.MaxNumber, str(""))} {
		lookAtSettled(t, wide(), 1, msg(f), msg())
	}
}

// TestP8_3Around sees that a message stays where it stands, though all that it held goes.
func TestP8_3Around(t *testing.T) {
	low, gone := msg(field(1, num(0)), field(6)), msg()
	for number, of := range map[int]func(...api.Msg) api.Field{
		8:  func(l ...api.Msg) api.Field { return field(8, in(l[0]), in(l[1])) },
		9:  func(l ...api.Msg) api.Field { return pairs(9, str(""), in(msg(field(5, in(l[0]))))) },
		12: func(l ...api.Msg) api.Field { return field(12, in(l[0])) },
		5:  func(l ...api.Msg) api.Field { return field(5, in(msg(field(2, num(0)), field(5, in(l[1]))))) },
	} {
		want := msg(of(gone, gone))
		if number == 5 {
			want = msg(field(5, in(msg(field(5, in(gone))))))
		}
		lookAtSettled(t, wide(), 1, msg(of(low, low)), want)
	}
}

func TestP8_3Refused(t *testing.T) {
	ofW, _ := wraps()
	for _, outer := range ofW {
		for _, m := range []api.Msg{msg(field(1)), msg(field(15)), msg(field(3, num(1))), unknown(varint(0, 0)), msg(field(1, num(0)), field(1, num(0))), msg(field(5, in(msg(field(1, num(0))))))} {
			if got, e := model.Settle(wide(), 1, outer(m)); e != api.ErrType || told(got) != "{}" {
				t.Errorf("Settle(%s): %s, error %d", told(outer(m)), told(got), e)
			}
		}
	}
}
