package pass_test

import (
	"fmt"
	"slices"
	"testing"

	"cartouche/api"
	"cartouche/model"
	"cartouche/plan"
	"cartouche/samples"
	"cartouche/table"
	"cartouche/vm"
	"cartouche/wire"
)

// The chapter a second time: the machine writes and reads, by the programs of both tables (T1), and what may clash is gathered ahead of asking.

// refusal tells what all calls refuse.
func refusal(first, second api.Table, name string, m api.Msg) api.Errno {
	if !table.Good(first) || !table.Good(second) {
		return api.ErrArg
	}
	for _, x := range []api.Table{first, second} {
		if i, e := table.Find(x, name); e != api.OK || x.Types[i].Enum {
			return api.ErrNone
		}
	}
	if ok, _ := model.Typed(first, place(first, name), m); !ok {
		return api.ErrType
	}
	return api.OK
}

func acrossAgain(from, to api.Table, name string, m api.Msg) (api.Msg, api.Errno) {
	if e := refusal(from, to, name, m); e != api.OK {
		return api.Msg{}, e
	}
	writing, _ := plan.Lower(from)
	reading, _ := plan.Lower(to)
	b, e := vm.Encode(writing, place(from, name), m)
	if e != api.OK {
		return api.Msg{}, e
	}
	return vm.Decode(reading, place(to, name), b)
}

// held is a number that stands in the Unknown of a message, and that message's type.
type held struct {
	name   string
	number int
}

func gather(x api.Table, index int, m api.Msg) []held {
	var out []held
	for _, u := range m.Unknown {
		out = append(out, held{x.Types[index].Name, u.Number})
	}
	for _, f := range m.Fields {
		own, _ := table.Field(x, index, f.Number)
		for _, v := range f.Vals {
			if own.Kind == api.Message {
				out = append(out, gather(x, own.Ref, v.M[0])...)
			}
		}
	}
	return out
}

func clashAgain(old, new api.Table, name string, m api.Msg) bool {
	return slices.ContainsFunc(gather(old, place(old, name), m), func(h held) bool {
		i, e := table.Find(new, h.name)
		if e != api.OK {
			return false
		}
		_, e = table.Field(new, i, h.number)
		return e == api.OK
	})
}

func askAgain(first, second api.Table, name string, m api.Msg) (out answers) {
	out.across, out.ofAcross = acrossAgain(first, second, name, m)
	out.through, out.ofThrough = out.across, out.ofAcross
	if out.ofAcross == api.OK {
		out.through, out.ofThrough = acrossAgain(second, first, name, out.across)
	}
	e := refusal(first, second, name, m)
	out.ofClash, out.ofSurvives = e, e
	if e == api.OK {
		out.clash = clashAgain(first, second, name, m)
		out.survives = out.ofThrough == api.OK && told(out.through) == told(m)
	}
	return out
}

// lookAgain sees that all calls answer what the second reading does, and tells it.
func lookAgain(t *testing.T, first, second api.Table, name string, m api.Msg) answers {
	t.Helper()
	got, want := ask(first, second, name, m), askAgain(first, second, name, m)
	if got.told() != want.told() {
		t.Errorf("%s of %.40q: %s; want %s\n%s\nand %s", shortly(m), name, brief(got.told()), brief(want.told()), brief(first), brief(second))
	}
	return want
}

// foreign lays, here and there in a message, entries as another table's types would have them in their bytes.
func foreign(m *samples.Maker, x api.Table, a api.Msg) api.Msg {
	if len(x.Types) == 0 {
		return a
	}
	out := samples.Copy(a)
	samples.Touch{Rest: func(l *[]api.Entry) {
		i := m.Below(len(x.Types))
		if x.Types[i].Enum || m.Below(3) > 0 {
			return
		}
		b := m.Bytes(x, i, 2)
		if m.Below(8) == 0 {
			b = m.Bent(b)
		}
		if more, e := wire.Split(b); e == api.OK {
			*l = append(*l, more...)
		}
	}}.Message(&out)
	return out
}

// someMessage tells a message of one of a good table's types, and that type's name; what is not known of it may be known by the other table. If there is no type, it tells any.
func someMessage(m *samples.Maker, x, other api.Table) (string, api.Msg) {
	var places []int
	for i, y := range x.Types {
		if !y.Enum {
			places = append(places, i)
		}
	}
	if len(places) == 0 {
		return "M", m.Wild(2)
	}
	i := samples.Pick(m, places...)
	a := m.Message(x, i, 3)
	if m.Below(2) == 0 {
		a = foreign(m, other, a)
	}
	if m.Below(3) > 0 {
		a, _ = model.Settle(x, i, a)
	}
	return x.Types[i].Name, a
}

// TestP19_1P19_2Chance has many tables, and messages of both; each error and each answer must come often.
func TestP19_1P19_2Chance(t *testing.T) {
	m := samples.New(1901)
	counts := map[string]int{}
	for range 10000 {
		old, new := m.TwoTables()
		if m.Below(2) == 0 {
			old, new = new, old
		}
		name, a := someMessage(m, old, new)
		l := lookAgain(t, old, new, name, a)
		counts[fmt.Sprintf("across %d", l.ofAcross)]++
		if l.ofAcross == api.OK {
			counts[fmt.Sprintf("back %d", l.ofThrough)]++
			counts[fmt.Sprint("survives ", l.survives)]++
			counts[fmt.Sprint("clash ", l.clash)]++
		}
	}
	for s, least := range map[string]int{"across 0": 4000, "across 20": 1000, "across 9": 50, "across 7": 20, "across 3": 50, "back 0": 4000, "back 9": 3, "survives true": 3000, "survives false": 500, "clash true": 1000, "clash false": 2000} {
		if counts[s] < least {
			t.Errorf("too few of %s: %v", s, counts)
		}
	}
}

// TestP19_1Singles has a field of each kind and label, read as one of each other: each with all values that it may have.
func TestP19_1Singles(t *testing.T) {
	m := samples.New(1902)
	tables := samples.Singles()
	for _, from := range tables {
		for range 20 {
			to := samples.Pick(m, tables...)
			f := from.Types[samples.Around].Fields[0]
			good, _ := samples.Values(f.Kind)
			if f.Kind == api.Message {
				good = append(good, in(unknown(varint(1, 1), chunk(2, "a"))))
			}
			for i, v := range good {
				own := field(f.Number, v)
				switch f.Label {
				case api.Repeated, api.Packed:
					own.Vals = append(own.Vals, good[:i]...)
				case api.Map:
					keys := samples.Rising(f.Key)
					own.Keys, own.Vals = keys, slices.Repeat(own.Vals, len(keys))
				}
				lookAgain(t, from, to, "T", with(msg(own), varint(9, 1), chunk(f.Number, "\x08\x01"), varint(f.Number, 1)))
				lookAgain(t, from, to, "T", msg(own))
			}
		}
	}
}
