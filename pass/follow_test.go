package pass_test

import (
	"fmt"
	"slices"
	"strings"
	"testing"

	"cartouche/api"
	"cartouche/evolve"
	"cartouche/interp"
	"cartouche/model"
	"cartouche/pass"
	"cartouche/samples"
	"cartouche/table"
	"cartouche/wire"
)

// TestExamples has the chapter's.
func TestExamples(t *testing.T) {
	x := msg(field(1, num(1)), field(4, str("a")))
	lookAtWay(t, en(), em(), x, `x : 1 ? 4 - 2 : "a"`, `x : 1 s : "a"`)
	a := unknown(chunk(4, "a"))
	lookAtWay(t, em(), en(), a, `s : "a"`, `? 4 - 2 : "a"`)
	if ok, e := pass.Survives(em(), en(), "M", a); !ok || e != api.OK {
		t.Errorf("Survives: %v, error %d", ok, e)
	}
	lookAtClash(t, em(), en(), a, true)
	lookAtWay(t, em(), en(), unknown(chunk(4, "\xff")), "error 8", "error 8")
	lookAtClash(t, em(), en(), unknown(varint(5, 1)), false)
}

// grown tells good tables, the new one at most Additive over the old one, and the name of a message of both.
func grown(t *testing.T, m *samples.Maker) (old, new api.Table, name string) {
	t.Helper()
	for {
		old = m.SomeTable()
		new = m.Grown(old, 2)
		if m.Below(2) == 0 {
			new = m.Reordered(new)
		}
		if _, class, e := evolve.Diff(old, new); class > evolve.Additive || e != api.OK {
			t.Fatalf("class %d, error %d:\n%s\nand %s", class, e, brief(old), brief(new))
		}
		if x := samples.Pick(m, old.Types...); !x.Enum {
			return old, new, x.Name
		}
	}
}

// someNormal tells a normal message of one of a table's types; what is not known of it may be known by another table.
func someNormal(m *samples.Maker, x, other api.Table, name string) api.Msg {
	i := place(x, name)
	a := m.Message(x, i, 4)
	if m.Below(2) == 0 {
		a = foreign(m, other, a)
	}
	a, _ = model.Settle(x, i, a)
	return a
}

// entriesOf tells a message's entries as they are written.
func entriesOf(t *testing.T, x api.Table, index int, m api.Msg) []api.Entry {
	t.Helper()
	b, e := interp.Encode(x, index, m)
	l, e2 := wire.Split(b)
	if e != api.OK || e2 != api.OK {
		t.Fatalf("%s: error %d, error %d", shortly(m), e, e2)
	}
	return l
}

// known tells what the old table knows of a new one's message, and counts what it does not: of each message the fields that are fresh are the first entries of its Unknown.
func known(t *testing.T, old, new api.Table, name string, m api.Msg, fresh *int) api.Msg {
	t.Helper()
	numbers, e := evolve.Fresh(old, new, name)
	if e != api.OK {
		t.Fatalf("Fresh of %s: error %d", name, e)
	}
	var out api.Msg
	index := place(new, name)
	for _, f := range m.Fields {
		if slices.Contains(numbers, f.Number) {
			out.Unknown = append(out.Unknown, entriesOf(t, new, index, msg(f))...)
			*fresh++
			continue
		}
		own, _ := table.Field(new, index, f.Number)
		stays := api.Field{Number: f.Number, Keys: f.Keys}
		for _, v := range f.Vals {
			if own.Kind == api.Message {
				v = in(known(t, old, new, new.Types[own.Ref].Name, v.M[0], fresh))
			}
			stays.Vals = append(stays.Vals, v)
		}
		out.Fields = append(out.Fields, stays)
	}
	out.Unknown = append(out.Unknown, m.Unknown...)
	return out
}

// TestT5P19_3There: a normal message of the new table survives through the old one, which keeps what it does not know.
func TestT5P19_3There(t *testing.T) {
	m := samples.New(1931)
	counts := map[int]int{}
	for range 3000 {
		old, new, name := grown(t, m)
		a := someNormal(m, new, old, name)
		there := survives(t, new, old, name, a)
		fresh := 0
		if want := known(t, old, new, name, a, &fresh); told(there) != told(want) {
			t.Errorf("%s of %s is %s; want %s\n%s\nover %s", shortly(a), name, shortly(there), shortly(want), brief(new), brief(old))
		}
		counts[min(fresh, 2)]++
	}
	for fresh := range 3 {
		if counts[fresh] < 200 {
			t.Errorf("too few: %v", counts)
		}
	}
}

// TestT5P19_3Back: a normal message of the old table that does not clash survives through the new one, as it is; so it has no entries that are fresh there.
func TestT5P19_3Back(t *testing.T) {
	m := samples.New(1932)
	counts := map[string]int{}
	for range 4000 {
		old, new, name := grown(t, m)
		a := someNormal(m, old, new, name)
		clash, e := pass.Clash(old, new, name, a)
		if e != api.OK {
			t.Fatalf("Clash(%s): error %d", shortly(a), e)
		}
		if clash {
			ok, _ := pass.Survives(old, new, name, a)
			counts[fmt.Sprint("clashes, survives ", ok)]++
			continue
		}
		if there := survives(t, old, new, name, a); told(there) != told(a) {
			t.Errorf("%s of %s is %s\n%s\nover %s", shortly(a), name, shortly(there), brief(new), brief(old))
		}
		counts[fmt.Sprint("something is not known ", len(gather(old, place(old, name), a)) > 0)]++
	}
	for _, s := range []string{"clashes, survives true", "clashes, survives false", "something is not known true", "something is not known false"} {
		if counts[s] < 150 {
			t.Errorf("too few: %v", counts)
		}
	}
}

// TestP19_3Bounds has the greatest and the deepest messages that there are.
func TestP19_3Bounds(t *testing.T) {
	for _, m := range []api.Msg{
		msg(field(1, num(5)), field(4, str(strings.Repeat("a", api.MaxMessage-6)))), nested(3, api.MaxDepth-1, with(msg(field(4, str("a"))), varint(5, 1))), unknown(slices.Repeat([]api.Entry{varint(5, 1)}, api.MaxMessage/2)...),
		msg(field(2, slices.Repeat([]api.Val{num(127)}, api.MaxMessage-4)...)), with(msg(field(4, str(strings.Repeat("a", 1<<14-1)))), chunk(9, strings.Repeat("b", api.MaxMessage-1<<14-6))),
	} {
		if n, e := interp.Size(en(), 1, m); n > api.MaxMessage || e != api.OK {
			t.Fatalf("%d bytes, error %d", n, e)
		}
		survives(t, en(), em(), "M", m)
	}
	survives(t, em(), en(), "M", unknown(chunk(5, strings.Repeat("a", api.MaxMessage-4))))
	survives(t, em(), en(), "M", nested(3, api.MaxDepth-1, unknown(varint(5, 1))))
	of := samples.Full()
	var full api.Msg
	for i := range api.MaxFields {
		full.Fields = append(full.Fields, field(i+1, num(int64(-i-1))))
	}
	none := samples.CopyTable(of)
	for i := range none.Types {
		none.Types[i].Fields = nil
	}
	if there := survives(t, of, none, "M127", full); len(there.Unknown) != api.MaxFields || len(there.Fields) > 0 {
		t.Errorf("of the greatest table: %s", shortly(there))
	}
}

// TestP19_3Unknown: whatever the tables are, the entries that the other one does not know are all that is in Unknown behind reading, with their values and in their order.
func TestP19_3Unknown(t *testing.T) {
	m := samples.New(1933)
	several := 0
	for range 5000 {
		from, to := m.TwoTables()
		name, a := someMessage(m, from, to)
		there, e := pass.Across(from, to, name, a)
		if e != api.OK {
			continue
		}
		index := place(to, name)
		want := slices.DeleteFunc(entriesOf(t, from, place(from, name), a), func(x api.Entry) bool {
			as, _ := table.Takes(to, index, x.Number, x.Kind)
			return as > 0
		})
		if told(unknown(there.Unknown...)) != told(unknown(want...)) {
			t.Errorf("%s of %s is %s; want %s\n%s\nby %s", shortly(a), name, shortly(there), shortly(unknown(want...)), brief(from), brief(to))
		}
		if len(want) > 1 {
			several++
		}
		if ok, e := model.Typed(to, index, there); !ok || e != api.OK {
			t.Errorf("%s is not typed", shortly(there))
		}
	}
	if several < 800 {
		t.Errorf("%d have several", several)
	}
}

// TestT5Compiled has files that follow one another: what the last one's messages are survives through each one ahead of it, and through all of them one behind the other.
func TestT5Compiled(t *testing.T) {
	var tables []api.Table
	for _, file := range []string{
		`message M { int32 x = 2; M m = 5; }`,
		`message M { string s = 1; int32 x = 2; M m = 5; }`,
		`enum E { A = 0; B = 4; } message M { string s = 1; int32 x = 2; repeated E l = 3; M m = 5; message N { M m = 1; } N n = 7; }`,
		`message O { int32 y = 1; } enum E { A = 0; B = 4; } message M { string s = 1; int32 x = 2; repeated E l = 3; map<string, O> p = 4; M m = 5; message N { M m = 1; O o = 2; } N n = 7; oneof o { O a = 8; bytes b = 9; } }`,
	} {
		tables = append(tables, described(t, file))
	}
	last := len(tables) - 1
	const all = `s : "a" x : 5 l [ B A ] p < "" : { } "k" : { y : 6 } > m { x : 1 m { l [ A ] n { m { s : "b" } o { } } } b : "c" } n { o { ? 2 - 0 : 1 } } a { y : 7 } ? 6 - 5 : 1 ? 1 - 0 : 2`
	m := said(t, tables[last], all)
	for i, x := range tables {
		lookAtWay(t, tables[last], x, m, []string{
			`x : 5 m { x : 1 m { ? 3 - 2 : "\x00" ? 7 - 2 : "\n\x03\n\x01b\x12\x00" } ? 9 - 2 : "c" } ? 1 - 2 : "a" ? 3 - 2 : "\x04\x00" ? 4 - 2 : "\n\x00\x12\x00" ? 4 - 2 : "\n\x01k\x12\x02\x08\x06" ? 7 - 2 : "\x12\x02\x10\x01" ? 8 - 2 : "\x08\x07" ? 6 - 5 : 1 ? 1 - 0 : 2`,
			`s : "a" x : 5 m { x : 1 m { ? 3 - 2 : "\x00" ? 7 - 2 : "\n\x03\n\x01b\x12\x00" } ? 9 - 2 : "c" } ? 3 - 2 : "\x04\x00" ? 4 - 2 : "\n\x00\x12\x00" ? 4 - 2 : "\n\x01k\x12\x02\x08\x06" ? 7 - 2 : "\x12\x02\x10\x01" ? 8 - 2 : "\x08\x07" ? 6 - 5 : 1 ? 1 - 0 : 2`,
			`s : "a" x : 5 l [ B A ] m { x : 1 m { l [ A ] n { m { s : "b" } ? 2 - 2 : "" } } ? 9 - 2 : "c" } n { ? 2 - 2 : "\x10\x01" } ? 4 - 2 : "\n\x00\x12\x00" ? 4 - 2 : "\n\x01k\x12\x02\x08\x06" ? 8 - 2 : "\x08\x07" ? 6 - 5 : 1 ? 1 - 0 : 2`,
			all,
		}[i], all)
		survives(t, tables[last], x, "M", m)
	}
	there := m
	for i := last; i > 0; i-- {
		there, _ = pass.Across(tables[i], tables[i-1], "M", there)
	}
	for i := range last {
		there, _ = pass.Across(tables[i], tables[i+1], "M", there)
	}
	if told(there) != told(m) {
		t.Errorf("through all: %s; want %s", told(there), told(m))
	}
}
