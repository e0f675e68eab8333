package table_test

import (
	"math"
	"slices"
	"strings"
	"sync"
	"testing"
	"unsafe"

	"cartouche/api"
	"cartouche/samples"
	"cartouche/table"
)

// all asks each call of a type; what is beside an error is zero.
func all(t *testing.T, x api.Table, index, n int, s string) []answer {
	t.Helper()
	out := []answer{find(x, s), field(x, index, n), named(x, index, s), takes(x, index, n, n%7), symbol(x, index, n), number(x, index, s), depths(x, index)}
	for i, a := range out {
		if a.e != api.OK && a != (answer{e: a.e}) {
			t.Errorf("call %d of type %d, number %d, name %q: %+v", i, index, n, s, a)
		}
		if a.e != api.OK && a.e != api.ErrArg && a.e != api.ErrNone {
			t.Errorf("call %d of type %d, number %d, name %q: error %d", i, index, n, s, a.e)
		}
	}
	return out
}

// TestR1R2 has tables that are not good, and any index, number, kind and name: none panics, and of a table that is not good each is refused.
func TestR1R2(t *testing.T) {
	m := samples.New(77)
	for range 3000 {
		x := m.BentTable()
		if m.Below(4) == 0 {
			x = m.WildTable()
		}
		good := table.Good(x)
		for range 4 {
			index := samples.Pick(m, m.Below(len(x.Types)+2)-1, m.Near(0))
			for i, a := range all(t, x, index, m.Near(m.Below(12)), m.Word("f1")) {
				if !good && a.e != api.ErrArg || i > 0 && (index < 0 || index >= len(x.Types)) && a.e != api.ErrArg {
					t.Errorf("call %d of %+v, type %d: %+v", i, x, index, a)
				}
			}
		}
	}
}

// TestR1Big has very long lists and names: each is refused or answered soon.
func TestR1Big(t *testing.T) {
	const many = 300000
	long := strings.Repeat("x", many)
	wide := messageOf("M", fields(api.MaxFields)...)
	for range many {
		wide.Oneofs = append(wide.Oneofs, long[:len(wide.Oneofs)%7+1])
	}
	for i := range wide.Fields {
		wide.Fields[i].Label, wide.Fields[i].Oneof = api.Member, i
	}
	for what, x := range map[string]api.Table{
		"types": tableOf(messages(many)...), "fields": tableOf(messageOf("M", fields(many)...)), "symbols": tableOf(enumOf("E", symbols(many)...)),
		"ranges": tableOf(api.Type{Name: "M", Reserved: ranges(many, 1)}), "oneofs": tableOf(wide), "symbols of a message": tableOf(api.Type{Name: "M", Symbols: symbols(many)}),
		"points": tableOf(messageOf(strings.Repeat(".", many))), "names": tableOf(messageOf("A" + strings.Repeat(".A", many))), "a name and a point": tableOf(messageOf(long + ".")),
	} {
		lookAtGood(t, what, x, false)
		all(t, x, 0, 1, "x")
	}
	last := messageOf("M", api.FieldType{Name: long, Number: 1, Kind: api.Bool}, api.FieldType{Name: long + "y", Number: 2, Kind: api.Bool})
	x := tableOf(last, messageOf(long), messageOf(long+"y"))
	lookAtGood(t, "long names", x, true)
	lookAt(t, "a long name", named(x, 0, long+"y"), answer{field: last.Fields[1]})
	lookAt(t, "a long type's name", find(x, long+"y"), answer{number: 2})
	all(t, x, math.MaxInt, math.MinInt, long)
}

// full tells the greatest table that is good: each message holds all others.
func full() api.Table {
	x := tableOf(messages(api.MaxTypes)...)
	for i := range x.Types {
		l := fields(api.MaxFields)
		for at := range l {
			l[at].Kind, l[at].Label, l[at].Ref = api.Message, api.Optional, (i+at)%api.MaxTypes
		}
		x.Types[i].Fields, x.Types[i].Reserved = l, ranges(api.MaxFields, api.MaxFields+1)
	}
	return x
}

func TestR1Full(t *testing.T) {
	x := full()
	lookAtGood(t, "the greatest table", x, true)
	for i := range 8 {
		lookAt(t, "its depths", depths(x, i*16), answer{})
		lookAt(t, "its fields", field(x, i, api.MaxFields), answer{field: x.Types[i].Fields[api.MaxFields-1]})
	}
	for i := range x.Types { // each holds those behind it alone, so that none holds itself
		x.Types[i].Fields = slices.DeleteFunc(x.Types[i].Fields, func(f api.FieldType) bool { return f.Ref <= i })
	}
	for i := range 8 {
		lookAt(t, "depths of those behind", depths(x, i*16), answer{number: api.MaxTypes - i*16})
	}
}

func TestR4Arguments(t *testing.T) {
	m := samples.New(78)
	for range 500 {
		x := samples.RoomyTable(m.BentTable())
		before := samples.WhollyTable(x)
		table.Good(x)
		for index := range x.Types {
			all(t, x, index, 1+m.Below(9), samples.Pick(m, "f1", "Z", "A3_0"))
		}
		if samples.WhollyTable(x) != before {
			t.Errorf("changed: %s, was %s", samples.WhollyTable(x), before)
		}
	}
}

// within tells whether a text stands in the memory of another one.
func within(s, whole string) bool {
	low, here := uintptr(unsafe.Pointer(unsafe.StringData(whole))), uintptr(unsafe.Pointer(unsafe.StringData(s)))
	return s != "" && here >= low && here < low+uintptr(len(whole))
}

// TestR4AnswersAreNew sees that no name that is told stands in the memory of what was handed in.
func TestR4AnswersAreNew(t *testing.T) {
	x := many()
	for i := range x.Types {
		for at, f := range x.Types[i].Fields {
			x.Types[i].Fields[at].Name = strings.Clone(f.Name + "_long")
		}
		for at, s := range x.Types[i].Symbols {
			x.Types[i].Symbols[at].Name = strings.Clone(s.Name + "_long")
		}
	}
	for _, f := range x.Types[1].Fields {
		name := strings.Clone(f.Name)
		a, b := field(x, 1, f.Number).field.Name, named(x, 1, name).field.Name
		if a != f.Name || b != f.Name || within(a, f.Name) || within(b, f.Name) || within(b, name) {
			t.Errorf("%s shares memory with what was handed in", f.Name)
		}
	}
	for _, s := range x.Types[3].Symbols {
		if a := symbol(x, 3, s.Number).name; a != s.Name || within(a, s.Name) {
			t.Errorf("%s shares memory with what was handed in", s.Name)
		}
	}
}

// TestR4EmptyLists sees that nil and an empty list are one.
func TestR4EmptyLists(t *testing.T) {
	m := samples.New(79)
	for range 1000 {
		x := m.BentTable()
		y := samples.EmptiedTable(x)
		if table.Good(x) != table.Good(y) {
			t.Errorf("Good(%+v): %v", x, table.Good(x))
		}
		for index := range x.Types {
			n, s := m.Below(9), samples.Pick(m, "f1", "f3", "Z", "A3_0", "")
			if !slices.Equal(all(t, x, index, n, s), all(t, y, index, n, s)) {
				t.Errorf("with empty lists otherwise: %+v, type %d, number %d, name %s", x, index, n, s)
			}
		}
	}
}

// TestR5Many asks from many goroutines at a time, one table.
func TestR5Many(t *testing.T) {
	m := samples.New(80)
	var tables []api.Table
	var want [][]answer
	for range 40 {
		x := m.BentTable()
		tables, want = append(tables, x), append(want, all(t, x, 0, 2, "f2"))
	}
	var group sync.WaitGroup
	for worker := range 8 {
		group.Go(func() {
			for step := range 400 {
				i := (7*worker + step) % len(tables)
				if got := all(t, tables[i], 0, 2, "f2"); !slices.Equal(got, want[i]) {
					t.Errorf("table %d: %+v, want %+v", i, got, want[i])
				}
			}
		})
	}
	group.Wait()
}
