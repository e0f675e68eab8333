package evolve_test

import (
	"fmt"
	"slices"
	"strings"
	"sync"
	"testing"
	"time"
	"unsafe"

	"cartouche/api"
	"cartouche/evolve"
	"cartouche/samples"
	"cartouche/table"
)

// TestR1R2 has tables that are not good, and any names and numbers: none panics, and of a table that is not good each is refused.
func TestR1R2(t *testing.T) {
	m := samples.New(1841)
	counts := map[string]int{}
	for range 8000 {
		old, new := m.AnyTable(), m.AnyTable()
		if table.Good(old) && m.Below(3) == 0 {
			new = m.Evolved(old)
		}
		name := m.AnyName(samples.Pick(m, old, new))
		isGood := table.Good(old) && table.Good(new)
		counts[fmt.Sprint(table.Good(old), table.Good(new))]++
		l, class, e := evolve.Diff(old, new)
		if isGood != (e == api.OK) || !isGood && (e != api.ErrArg || len(l) > 0 || class != 0) || isGood && class != worst(l) {
			t.Errorf("Diff(%s, %s): %s, class %d, error %d", brief(old), brief(new), brief(l), class, e)
		}
		numbers, e := evolve.Fresh(old, new, name)
		if !isGood && e != api.ErrArg || e != api.OK && len(numbers) > 0 || isGood && e != api.OK && e != api.ErrNone {
			t.Errorf("Fresh(%s, %s, %q): %v, error %d", brief(old), brief(new), name, numbers, e)
		}
		evolve.Wider(m.Near(m.Below(20)), m.Near(m.Below(20)))
	}
	for _, s := range []string{"true true", "true false", "false true", "false false"} {
		if counts[s] < 500 {
			t.Errorf("too few: %v", counts)
		}
	}
}

// TestR1Big has very long lists and names: each is refused or answered soon.
func TestR1Big(t *testing.T) {
	const many = 300000
	begin := time.Now()
	for what, x := range map[string]api.Table{
		"types": {Types: make([]api.Type, many)}, "fields": tableOf(messageOf("M", make([]api.FieldType, many)...)), "symbols": tableOf(enumOf("M", make([]api.Symbol, many)...)),
		"ranges": tableOf(api.Type{Name: "M", Reserved: make([]api.Range, many)}), "oneofs": tableOf(api.Type{Name: "M", Oneofs: make([]string, many)}), "points": tableOf(messageOf(strings.Repeat(".", many))),
	} {
		lookAtRefused(t, what, x, em())
		lookAtRefused(t, what, em(), x)
		lookAtRefused(t, what, x, x)
	}
	long := strings.Repeat("x", many)
	old := tableOf(numbered(long, 1, 2), messageOf(long+"y"))
	new := tableOf(numbered(long, 2, 3), messageOf(long+"z"))
	lookAtDiff(t, "long names", old, new, change{evolve.Breaking, evolve.LostField, long, 1}, change{evolve.Widening, evolve.Renamed, long, 2}, change{evolve.Additive, evolve.NewField, long, 3},
		change{evolve.Breaking, evolve.Lost, long + "y", 0}, change{evolve.Additive, evolve.New, long + "z", 0})
	lookAtFresh(t, "long names", old, new, long, api.OK, 3)
	lookAtFresh(t, "long names", old, new, long+"w", api.ErrNone)
	if spent := time.Since(begin); spent > 20*time.Second {
		t.Errorf("all that took %v", spent)
	}
}

// TestR1Full has the greatest tables, all of them changed.
func TestR1Full(t *testing.T) {
	x := full()
	y := turned(x, func(l []api.Type) {
		for i := range l {
			for at := range l[i].Fields {
				f := &l[i].Fields[at]
				f.Name, f.Kind, f.Label = "g"+f.Name, api.String, api.Map
				f.Key = api.Bool
			}
			for at := range api.MaxFields {
				l[i].Reserved = append(l[i].Reserved, api.Range{Low: 1000 + at, High: 1000 + at})
			}
		}
	})
	var want, back []change
	for _, z := range x.Types {
		for _, f := range z.Fields {
			l := []change{{evolve.Widening, evolve.Renamed, z.Name, f.Number}, {evolve.Breaking, evolve.Retyped, z.Name, f.Number}, {evolve.Breaking, evolve.Relabelled, z.Name, f.Number}}
			want, back = append(want, l...), append(back, l...)
		}
		want, back = append(want, change{evolve.Widening, evolve.Reserved, z.Name, 0}), append(back, change{evolve.Breaking, evolve.Reserved, z.Name, 0})
	}
	lookAtDiff(t, "the greatest", x, y, want...)
	lookAtDiff(t, "the other way", y, x, back...)
	symbols := func(from int) api.Table {
		x := enumOf("E", api.Symbol{Name: "Z"})
		for n := range api.MaxFields - 1 {
			x.Symbols = append(x.Symbols, api.Symbol{Name: fmt.Sprint("S", n+from), Number: n + from})
		}
		return tableOf(x)
	}
	want = nil
	for n := range api.MaxFields - 1 {
		want = append(want, change{evolve.Breaking, evolve.LostSymbol, "E", n + 1})
	}
	for n := range api.MaxFields - 1 {
		want = append(want, change{evolve.Widening, evolve.NewSymbol, "E", n + 5000})
	}
	lookAtDiff(t, "the greatest enums", symbols(1), symbols(5000), want...)
}

// TestR3R4Arguments sees that nothing that is handed in is changed, spare room too, whether it is refused or not; and that the same is told again.
func TestR3R4Arguments(t *testing.T) {
	m := samples.New(1842)
	for range 2000 {
		old, new := m.TwoTables()
		if m.Below(3) == 0 {
			old, new = m.AnyTable(), m.AnyTable()
		}
		old, new = samples.RoomyTable(old), samples.RoomyTable(new)
		name := m.AnyName(samples.Pick(m, old, new))
		one, two := samples.WhollyTable(old), samples.WhollyTable(new)
		first := told(old, new, name)
		if samples.WhollyTable(old) != one || samples.WhollyTable(new) != two {
			t.Errorf("changed: %s, %s", one, two)
		}
		if again := told(old, new, name); again != first {
			t.Errorf("asked again: %s, want %s", brief(again), brief(first))
		}
		if one, two := told(old, old, name), told(old, samples.CopyTable(old), name); one != two {
			t.Errorf("one table on both sides: %s, want %s", brief(one), brief(two))
		}
	}
}

// within tells whether a text stands in the memory of another one.
func within(s, whole string) bool {
	low, here := uintptr(unsafe.Pointer(unsafe.StringData(whole))), uintptr(unsafe.Pointer(unsafe.StringData(s)))
	return s != "" && here >= low && here < low+uintptr(len(whole))
}

// TestR4AnswersAreNew writes over what was told, spare room too: no other answer knows of it, nor does what was handed in. No name stands in the memory of a table.
func TestR4AnswersAreNew(t *testing.T) {
	m := samples.New(1843)
	for range 1500 {
		old, new := m.TwoTables()
		one, two := samples.WhollyTable(old), samples.WhollyTable(new)
		name := m.AnyName(new)
		a, _, _ := evolve.Diff(old, new)
		b, _, _ := evolve.Diff(old, new)
		c, _ := evolve.Fresh(old, new, name)
		d, _ := evolve.Fresh(old, new, name)
		first := fmt.Sprint(b, d)
		for _, x := range a {
			for _, y := range slices.Concat(old.Types, new.Types) {
				if within(x.Type, y.Name) {
					t.Errorf("%s shares memory with a table", x.Type)
				}
			}
		}
		for i := range a[:cap(a)] {
			a[:cap(a)][i] = change{9, 9, "spoiled", 9}
		}
		for i := range c[:cap(c)] {
			c[:cap(c)][i] = 9
		}
		if fmt.Sprint(b, d) != first || samples.WhollyTable(old) != one || samples.WhollyTable(new) != two {
			t.Errorf("spoiled: %s, was %s", brief(fmt.Sprint(b, d)), brief(first))
		}
		e, _, _ := evolve.Diff(old, new)
		f, _ := evolve.Fresh(old, new, name)
		if fmt.Sprint(e, f) != first {
			t.Errorf("another answer: %s, want %s", brief(fmt.Sprint(e, f)), brief(first))
		}
	}
}

// TestR4NotKept changes a table behind a call: what was told stays, and what is told then is of the table as it is.
func TestR4NotKept(t *testing.T) {
	old, new := em(), em()
	lookAtDiff(t, "the same", old, new)
	new.Types[1].Fields[0].Name = "y"
	got, _, _ := evolve.Diff(old, new)
	new.Types[1].Name = "N"
	if len(got) != 1 || got[0] != (change{evolve.Widening, evolve.Renamed, "M", 1}) {
		t.Errorf("told: %v", got)
	}
	lookAtDiff(t, "another name", old, new, change{evolve.Breaking, evolve.Lost, "M", 0}, change{evolve.Additive, evolve.New, "N", 0})
	lookAtFresh(t, "another name", old, new, "M", api.ErrNone)
}

// TestR4EmptyLists sees that nil and an empty list are one.
func TestR4EmptyLists(t *testing.T) {
	m := samples.New(1844)
	for range 2000 {
		old, new := m.TwoTables()
		if m.Below(3) == 0 {
			old, new = m.AnyTable(), m.AnyTable()
		}
		name := m.AnyName(samples.Pick(m, old, new))
		want := told(old, new, name)
		for _, got := range []string{told(samples.EmptiedTable(old), new, name), told(old, samples.EmptiedTable(new), name), told(samples.EmptiedTable(old), samples.EmptiedTable(new), name)} {
			if got != want {
				t.Errorf("with empty lists: %s, want %s", brief(got), brief(want))
			}
		}
	}
}

// TestR5Many asks from many goroutines at a time, of the same tables.
func TestR5Many(t *testing.T) {
	m := samples.New(1845)
	type row struct {
		old, new api.Table
		name     string
	}
	var rows []row
	var want []string
	for range 40 {
		old, new := m.TwoTables()
		r := row{old, new, m.AnyName(new)}
		rows, want = append(rows, r), append(want, told(r.old, r.new, r.name))
	}
	var group sync.WaitGroup
	for worker := range 8 {
		group.Go(func() {
			for step := range 400 {
				i := (7*worker + step) % len(rows)
				if got := told(rows[i].old, rows[i].new, rows[i].name); got != want[i] {
					t.Errorf("row %d: %s, want %s", i, brief(got), brief(want[i]))
				}
			}
		})
	}
	group.Wait()
}
