package model_test

import (
	"math"
	"slices"
	"testing"

	"cartouche/api"
	"cartouche/model"
	"cartouche/samples"
)

// rich is a plain message with something at each place where something can be, that no type has.
func rich() api.Msg {
	low := api.Msg{Fields: []api.Field{{Number: 4, Keys: []api.Val{num(1)}, Vals: []api.Val{num(2), str("b")}}}, Unknown: []api.Entry{varint(7, 1)}}
	return api.Msg{
		Fields: []api.Field{
			{Number: 3, Keys: []api.Val{{N: 5, B: []byte("key"), M: []api.Msg{low}}, num(-1)}, Vals: []api.Val{{N: 6, B: []byte{0, 255}, M: []api.Msg{low, {}, low}}}},
			{Number: 3, Vals: []api.Val{str("c")}},
			{Number: -1},
		},
		Unknown: []api.Entry{{Number: 1, Kind: 9, N: math.MaxUint64, B: []byte("ab")}, chunk(2, "c"), {}},
	}
}

// changes tells a message with one thing changed, for each thing and each way to change it; a few are as they were.
func changes(m api.Msg) []api.Msg {
	var out []api.Msg
	for way := range 4 {
		for place := 0; ; place++ {
			c, at := copyOf(m), 0
			here := func() bool { at++; return at-1 == place }
			samples.Touch{
				Number: func(n *int) {
					if here() {
						*n = []int{*n + 1, *n - 1, -*n, *n ^ 1<<40}[way]
					}
				},
				Bits: func(n *uint64) {
					if here() {
						*n = []uint64{*n + 1, *n ^ 1<<63, *n ^ 1<<32, 0}[way]
					}
				},
				Bytes: func(b *[]byte) {
					if here() {
						samples.ListChanges(byte(7))[way](b)
					}
					for i := range *b {
						if here() {
							(*b)[i] ^= 1 << (2*way + 1)
						}
					}
				},
				Vals:   func(l *[]api.Val) { changeIf(here(), way, l, api.Val{}) },
				Msgs:   func(l *[]api.Msg) { changeIf(here(), way, l, api.Msg{}) },
				Fields: func(l *[]api.Field) { changeIf(here(), way, l, api.Field{Number: 3}) },
				Rest:   func(l *[]api.Entry) { changeIf(here(), way, l, api.Entry{}) },
			}.Message(&c)
			if place >= at {
				break
			}
			out = append(out, c)
		}
	}
	return out
}

func changeIf[T any](so bool, way int, l *[]T, more T) {
	if so {
		samples.ListChanges(more)[way](l)
	}
}

func TestP8_1Equal(t *testing.T) {
	m := rich()
	all := append(changes(m), m, copyOf(m), emptied(m), msg(), emptied(msg()), unknown(), msg(field(1)), emptied(msg(field(1))), msg(field(2)), msg(api.Field{Number: 1, Keys: []api.Val{{}}}), msg(field(1, api.Val{})), msg(field(1, in(msg()))), msg(field(1, in(msg(), msg()))), unknown(api.Entry{}), emptied(unknown(api.Entry{})))
	differ := 0
	texts := make([]string, len(all))
	for i, a := range all {
		texts[i] = told(a)
		if texts[i] != told(m) {
			differ++
		}
	}
	if differ < 200 {
		t.Errorf("%d differ", differ)
	}
	for i, a := range all {
		for j, b := range all {
			if got, want := model.Equal(a, b), texts[i] == texts[j]; got != want {
				t.Errorf("Equal(%s, %s): %v", shortly(a), shortly(b), got)
			}
		}
	}
}

// TestP8_1EqualParts has two that differ in a single part, each ahead of nothing else that could tell it.
func TestP8_1EqualParts(t *testing.T) {
	keyed := func(v api.Val) api.Msg { return msg(api.Field{Number: 1, Keys: []api.Val{v}}) }
	valued := func(v api.Val) api.Msg { return msg(field(1, v)) }
	for _, of := range []func(api.Val) api.Msg{keyed, valued, func(v api.Val) api.Msg { return valued(in(keyed(v))) }, func(v api.Val) api.Msg { return keyed(in(valued(v))) }} {
		l := []api.Val{num(0), num(1), num(-1), num(1 << 32), str("a"), str("b"), str("aa"), str("\x00"), in(msg()), in(msg(), msg()), in(msg(field(1))), in(unknown(varint(1, 1)))}
		for i, a := range l {
			for j, b := range l {
				if model.Equal(of(a), of(b)) != (i == j) {
					t.Errorf("Equal(%s, %s): %v", told(of(a)), told(of(b)), i != j)
				}
			}
		}
	}
	if model.Equal(keyed(num(0)), valued(num(0))) || model.Equal(msg(field(1), field(2)), msg(field(2), field(1))) || model.Equal(unknown(varint(1, 1), varint(2, 1)), unknown(varint(2, 1), varint(1, 1))) {
		t.Error("keys are taken for values, or the order for none")
	}
}

func TestP8_1Copy(t *testing.T) {
	for _, m := range append(changes(rich()), msg(), unknown(varint(1, 1)), emptied(rich()), msg(field(1))) {
		before := told(m)
		c := model.Copy(m)
		lookAtMessage(t, "Copy", c, m)
		if !model.Equal(c, m) || !model.Equal(m, c) {
			t.Errorf("Copy of %s is not equal to it", shortly(m))
		}
		samples.Touch{
			Number: func(n *int) { *n += 100 }, Bits: func(n *uint64) { *n ^= 1 << 40 },
			Bytes: func(b *[]byte) {
				for i := range *b {
					(*b)[i]++
				}
			},
		}.Message(&c)
		if told(m) != before {
			t.Errorf("Copy shares memory with %s", before)
		}
	}
}

// wanted reads the chapter's words of Depth a second time.
func wantedDepth(m api.Msg) int {
	greatest := 0
	for _, f := range m.Fields {
		for _, v := range append(slices.Clone(f.Keys), f.Vals...) {
			for _, m := range v.M {
				greatest = max(greatest, wantedDepth(m))
			}
		}
	}
	return 1 + greatest
}

func TestP8_1Depth(t *testing.T) {
	keyed := func(m ...api.Msg) api.Msg { return msg(api.Field{Number: 1, Keys: []api.Val{in(m...)}}) }
	valued := func(m ...api.Msg) api.Msg { return msg(field(3, in(m...))) }
	two := valued(msg())
	for _, row := range []struct {
		m    api.Msg
		want int
	}{
		{msg(), 1}, {unknown(chunk(3, "")), 1}, {msg(field(1, num(1))), 1}, {msg(field(3)), 1}, {valued(), 1},
		{two, 2}, {keyed(msg()), 2}, {valued(two), 3}, {keyed(two), 3}, {valued(keyed(valued(msg()))), 4},
		{valued(msg(), two, msg()), 3}, {valued(two, msg()), 3}, {keyed(msg(), two), 3},
		{msg(field(1, num(1), in(msg()), in(two), num(2))), 3}, {msg(field(1, in(two)), field(2, in(msg()))), 3}, {msg(field(1, in(msg())), field(0, in(two))), 3},
		{msg(api.Field{Keys: []api.Val{in(two)}, Vals: []api.Val{in(msg())}}), 3}, {msg(api.Field{Keys: []api.Val{in(msg())}, Vals: []api.Val{in(two)}}), 3},
	} {
		if got := model.Depth(row.m); got != row.want || wantedDepth(row.m) != row.want {
			t.Errorf("Depth(%s): %d, want %d", told(row.m), got, row.want)
		}
	}
	for _, m := range changes(rich()) {
		if got := model.Depth(m); got != wantedDepth(m) {
			t.Errorf("Depth(%s): %d, want %d", told(m), got, wantedDepth(m))
		}
	}
	deep := msg()
	for i := range 200 {
		if got := model.Depth(deep); got != i+1 {
			t.Errorf("Depth of %d within one another: %d", i+1, got)
		}
		if deep = valued(deep); i%3 == 0 {
			deep = keyed(deep.Fields[0].Vals[0].M...)
		}
	}
}
