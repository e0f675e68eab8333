package model_test

import (
	"fmt"
	"math"
	"slices"
	"strings"
	"sync"
	"testing"

	"cartouche/api"
	"cartouche/model"
	"cartouche/samples"
)

// all asks each call, and tells all answers; beside an error or a false each answer must be zero.
func all(t *testing.T, x api.Table, index int, a, b api.Msg, f api.Field) string {
	t.Helper()
	isTyped, e1 := model.Typed(x, index, a)
	isNormal, e2 := model.Normal(x, index, a)
	with, e3 := model.Set(x, index, a, f)
	settled, e4 := model.Settle(x, index, a)
	got, ok := model.Get(a, f.Number)
	if e1 != api.OK && isTyped || e2 != api.OK && isNormal || e3 != api.OK && told(with) != "{}" || e4 != api.OK && told(settled) != "{}" || !ok && told(msg(got)) != told(msg(field(0))) {
		t.Errorf("of %s more than an error is told", shortly(a))
	}
	for i, e := range []api.Errno{e1, e2, e3, e4} {
		if e != api.OK && e != api.ErrArg && (e != api.ErrType || i < 2) || (e == api.ErrArg) != (e1 == api.ErrArg) {
			t.Errorf("of %s call %d tells error %d", shortly(a), i, e)
		}
	}
	return fmt.Sprint(isTyped, e1, isNormal, e2, told(with), e3, told(settled), e4, told(msg(got)), ok, model.Equal(a, b), told(model.Copy(a)), model.Depth(a), told(model.Clear(a, f.Number)))
}

// TestR1R2 has tables that are not good, any index and number, and messages of any sort: none panics.
func TestR1R2(t *testing.T) {
	m := samples.New(87)
	for range 4000 {
		x := m.Table()
		if m.Below(2) == 0 {
			x = m.Spoiled(x)
		}
		a, b := m.Wild(3), m.Wild(1)
		if m.Below(3) == 0 {
			a = m.Changed(m.Message(m.Table(), 0, 2))
		}
		f := field(m.FieldNumber())
		if len(b.Fields) > 0 {
			f = b.Fields[0]
		}
		all(t, x, samples.Pick(m, m.Below(len(x.Types)+2)-1, 0, 0, math.MinInt, math.MaxInt), a, b, f)
	}
}

// TestR1Big has as many parts as can be asked for, within one another and one behind the other: each call ends soon.
func TestR1Big(t *testing.T) {
	const deep, many = 1 << 16, 1 << 18
	low := msg(field(1, num(0)))
	tower := low
	for range deep - 1 {
		tower = msg(field(3, in(tower)))
	}
	for i := range 3 {
		list := field(2)
		if i > 0 {
			list.Vals = slices.Repeat([]api.Val{num(1)}, many)
		}
		if i > 1 {
			list.Vals[many-1] = num(-1)
		}
		want := []int{typed, normal, other}[i]
		lookAt(t, em(), 1, msg(list), want)
		lookAt(t, em(), 1, msg(list, field(3, in(msg(list)))), want)
	}
	if ok, _ := model.Typed(em(), 1, tower); !ok {
		t.Error("messages within one another: not typed")
	}
	if ok, _ := model.Normal(em(), 1, tower); ok {
		t.Error("messages within one another: normal")
	}
	settled, e := model.Settle(em(), 1, tower)
	with, e2 := model.Set(em(), 1, tower, field(1, num(1)))
	if e != api.OK || e2 != api.OK || model.Depth(tower) != deep || model.Depth(settled) != deep || model.Depth(with) != deep || model.Depth(model.Copy(tower)) != deep || model.Depth(model.Clear(tower, 1)) != deep {
		t.Errorf("messages within one another: depth %d, settled %d", model.Depth(tower), model.Depth(settled))
	}
	if model.Equal(tower, settled) || !model.Equal(tower, model.Copy(tower)) {
		t.Error("messages within one another are not held against each other")
	}
	entries := slices.Repeat([]api.Entry{varint(9, 1)}, many)
	lookAt(t, full(), 0, unknown(entries...), typed)
	entries = slices.Repeat([]api.Entry{varint(1000, 1)}, many)
	lookAt(t, full(), 0, unknown(entries...), normal)
	entries[many-1].Kind = 3
	lookAt(t, full(), 0, unknown(entries...), other)
	lookAt(t, full(), 0, msg(slices.Repeat([]api.Field{field(1, num(1))}, many)...), other)
	lookAt(t, em(), 1, unknown(chunk(9, strings.Repeat("a", many))), normal)
}

func TestR4Arguments(t *testing.T) {
	m := samples.New(88)
	for range 600 {
		x := m.Table()
		a, b := withRoom(m.Message(x, 0, 2)), withRoom(m.Wild(2))
		f := field(1)
		if other := withRoom(m.Message(x, 0, 2)); len(other.Fields) > 0 {
			f = samples.Pick(m, other.Fields...)
		}
		types := fmt.Sprintf("%+v", x)
		before := []string{wholly(a), wholly(b), wholly(msg(f))}
		all(t, x, 0, a, b, f)
		all(t, x, 0, b, a, f)
		if after := []string{wholly(a), wholly(b), wholly(msg(f))}; !slices.Equal(before, after) || fmt.Sprintf("%+v", x) != types {
			t.Errorf("changed: %v, was %v", after, before)
		}
	}
}

// sharing tells a message whose equal lists are one, as far as that can be.
func sharing() (m api.Msg, f api.Field) {
	some := []byte("ab")
	low := []api.Msg{{Fields: []api.Field{field(2, num(1))}, Unknown: []api.Entry{{Number: 20, Kind: api.Chunk, B: some}}}}
	vals := []api.Val{{M: low}}
	top := []api.Msg{{Fields: []api.Field{{Number: 5, Vals: vals}, {Number: api.MaxNumber, Vals: []api.Val{{B: some}}}}}}
	m = api.Msg{Fields: []api.Field{
		{Number: 2, Vals: []api.Val{{B: some}}}, {Number: 5, Vals: vals}, {Number: 8, Vals: []api.Val{{M: top}, {M: top}}},
		{Number: 9, Keys: []api.Val{{B: some[:1]}, {B: some}}, Vals: []api.Val{{M: low}, {M: low}}}, {Number: 13, Vals: vals}, {Number: api.MaxNumber, Vals: []api.Val{{B: some}}},
	}, Unknown: []api.Entry{{Number: 20, Kind: api.Chunk, B: some}, {Number: 20, Kind: api.Chunk, B: some}}}
	return m, api.Field{Number: 8, Vals: m.Fields[2].Vals}
}

func lookAtMemory(t *testing.T, what string, answer api.Msg, given ...api.Msg) {
	t.Helper()
	if samples.Shares(answer, given...) {
		t.Errorf("%s: %s shares memory", what, told(answer))
	}
}

func TestR4AnswersAreNew(t *testing.T) {
	look := func(x api.Table, a api.Msg, f api.Field) {
		t.Helper()
		lookAtMemory(t, "Copy", model.Copy(a), a)
		lookAtMemory(t, "Clear", model.Clear(a, f.Number), a)
		if got, ok := model.Get(a, f.Number); ok {
			lookAtMemory(t, "Get", msg(got), a)
		}
		if got, e := model.Set(x, 1, a, f); e == api.OK {
			lookAtMemory(t, "Set", got, a, msg(f))
		}
		if got, e := model.Settle(x, 1, a); e == api.OK {
			lookAtMemory(t, "Settle", got, a)
		}
	}
	a, f := sharing()
	lookAt(t, wide(), 1, a, normal)
	if _, e := model.Set(wide(), 1, a, f); e != api.OK {
		t.Errorf("Set: error %d", e)
	}
	look(wide(), a, f)
	look(wide(), a, a.Fields[0])
	m := samples.New(89)
	for range 600 {
		a, b := m.Message(wide(), 1, 3), m.Message(wide(), 1, 2)
		if m.Below(4) == 0 {
			a = m.Wild(3)
		}
		a = withRoom(samples.Pick(m, a, emptied(a)))
		f := field(3, num(0))
		if len(b.Fields) > 0 {
			f = samples.Pick(m, b.Fields...)
		}
		look(wide(), a, withRoom(msg(f)).Fields[0])
		if len(a.Fields) > 0 {
			look(wide(), a, a.Fields[0])
		}
	}
}

// TestR4EmptyLists sees that nil and an empty list are one.
func TestR4EmptyLists(t *testing.T) {
	m := samples.New(90)
	for range 2000 {
		x := m.Table()
		a, b := m.Changed(m.Message(x, 0, 2)), m.Wild(2)
		f := field(1)
		if other := m.Message(x, 0, 2); len(other.Fields) > 0 {
			f = other.Fields[0]
		}
		g := emptied(msg(f)).Fields[0]
		if one, two := all(t, x, 0, a, b, f), all(t, x, 0, emptied(a), emptied(b), g); one != two {
			t.Errorf("%s with empty lists: %s, want %s", told(a), two, one)
		}
	}
}

// TestR5Many asks from many goroutines at a time, of one table and one message.
func TestR5Many(t *testing.T) {
	m := samples.New(91)
	x := wide()
	var given []api.Msg
	var want []string
	for range 30 {
		a := m.Message(x, 1, 3)
		given = append(given, a)
		want = append(want, all(t, x, 1, a, given[0], field(4, num(1))))
	}
	var group sync.WaitGroup
	for worker := range 8 {
		group.Go(func() {
			for step := range 200 {
				i := (7*worker + step) % len(given)
				if got := all(t, x, 1, given[i], given[0], field(4, num(1))); got != want[i] {
					t.Errorf("message %d: %s, want %s", i, got, want[i])
				}
			}
		})
	}
	group.Wait()
}

// TestR6First sees that a table or an index is asked ahead of messages.
func TestR6First(t *testing.T) {
	bad := msg(field(2), field(1))
	refused(t, "an enum's index and a message that is not typed", em(), 0, bad, field(9))
	x := em()
	x.Types[1].Name = ""
	refused(t, "a table that is not good and a message that is not typed", x, 1, bad, field(9))
}
