package evolve_test

import (
	"fmt"
	"slices"
	"testing"

	"cartouche/api"
	"cartouche/check"
	"cartouche/evolve"
	"cartouche/samples"
	"cartouche/self"
)

// TestExamples has the chapter's.
func TestExamples(t *testing.T) {
	n := turned(em(), func(l []api.Type) {
		l[1].Fields = append(l[1].Fields, api.FieldType{Name: "s", Number: 4, Kind: api.String, Label: api.Plain})
	})
	look := func(old, new api.Table, wantClass int, want ...change) {
		t.Helper()
		got, class, e := evolve.Diff(old, new)
		if !slices.Equal(got, want) || class != wantClass || e != api.OK {
			t.Errorf("Diff: %v, class %d, error %d, want %v, class %d", got, class, e, want, wantClass)
		}
	}
	look(em(), n, evolve.Additive, change{evolve.Additive, evolve.NewField, "M", 4})
	look(n, em(), evolve.Breaking, change{evolve.Breaking, evolve.LostField, "M", 4})
	look(em(), turned(em(), func(l []api.Type) { l[1].Fields[0].Kind = api.Int64 }), evolve.Widening, change{evolve.Widening, evolve.Retyped, "M", 1})
	look(em(), turned(em(), func(l []api.Type) { l[0].Symbols = append(l[0].Symbols, api.Symbol{Name: "B", Number: 3}) }), evolve.Widening, change{evolve.Widening, evolve.NewSymbol, "E", 3})
	look(em(), turned(em(), func(l []api.Type) { l[1].Fields[1].Label = api.Repeated }), evolve.Widening, change{evolve.Widening, evolve.Relabelled, "M", 2})
	lookAtFresh(t, "N", em(), n, "M", api.OK, 4)
	lookAtFresh(t, "N", em(), n, "E", api.ErrNone)
}

// facts tells what a table says, by names: of each type its sort, of an enum all symbols at once, of a message each field by itself and all reserved numbers at once.
func facts(x api.Table) []string {
	var out []string
	for _, y := range x.Types {
		var symbols []string
		for _, s := range y.Symbols {
			symbols = append(symbols, fmt.Sprint(s.Name, " ", s.Number))
		}
		slices.Sort(symbols)
		var turns []int // where numbers begin or end to be reserved
		for _, n := range edges(y) {
			if isReserved(y, n) != isReserved(y, n-1) && !slices.Contains(turns, n) {
				turns = append(turns, n)
			}
		}
		slices.Sort(turns)
		out = append(out, fmt.Sprint(y.Name, y.Enum, symbols, turns))
		for _, f := range y.Fields {
			ref, oneof := "", ""
			if f.Kind >= api.Enum {
				ref = x.Types[f.Ref].Name
			}
			if f.Label == api.Member {
				oneof = y.Oneofs[f.Oneof]
			}
			out = append(out, fmt.Sprintf("%s: %s %d %d %q %d %q %d", y.Name, f.Name, f.Number, f.Kind, ref, f.Label, oneof, f.Key))
		}
	}
	return out
}

// isWithin tells whether all of a list stands in another one.
func isWithin(l, all []string) bool {
	return !slices.ContainsFunc(l, func(s string) bool { return !slices.Contains(all, s) })
}

// classOf tells the class alone.
func classOf(t *testing.T, old, new api.Table) int {
	t.Helper()
	l, class, e := evolve.Diff(old, new)
	if e != api.OK || class != worst(l) {
		t.Fatalf("Diff: %s, class %d, error %d", brief(l), class, e)
	}
	return class
}

// TestT5P18_3Additive: the class is at most Additive just if all that the old table says the new one says too; it is Same just if both say the same.
func TestT5P18_3Additive(t *testing.T) {
	m := samples.New(1831)
	counts := map[int]int{}
	for range 15000 {
		old, new := m.TwoTables()
		a, b := facts(old), facts(new)
		want := 0
		switch {
		case isWithin(a, b) && isWithin(b, a):
			want = evolve.Same
		case isWithin(a, b):
			want = evolve.Additive
		}
		counts[want]++
		if class := classOf(t, old, new); want > 0 && class != want || want == 0 && class <= evolve.Additive {
			t.Errorf("class %d, want %d\n%s\nbecomes\n%s", class, want, brief(old), brief(new))
		}
	}
	for _, n := range []int{0, evolve.Same, evolve.Additive} {
		if counts[n] < 500 {
			t.Errorf("too few: %v", counts)
		}
	}
}

// TestP18_3Itself holds tables against themselves, and against copies.
func TestP18_3Itself(t *testing.T) {
	m := samples.New(1832)
	look := func(x api.Table) {
		t.Helper()
		lookAtDiff(t, "itself", x, x)
		lookAtDiff(t, "a copy", x, samples.CopyTable(x))
		for _, y := range x.Types {
			if !y.Enum {
				lookAtFresh(t, "itself", x, x, y.Name, api.OK)
			}
		}
	}
	for _, x := range append(samples.Singles(), api.Table{}, em(), wide(), full(), self.Meta()) {
		look(x)
	}
	for range 2000 {
		look(m.SomeTable())
	}
}

// TestP18_3Order has tables that differ in the order of types alone, and what follows of that for others: whatever the orders are, the class is one.
func TestP18_3Order(t *testing.T) {
	m := samples.New(1833)
	others := 0
	for range 3000 {
		old, new := m.TwoTables()
		x := m.Reordered(old)
		lookAtDiff(t, brief(old), old, x)
		lookAtDiff(t, brief(x), x, old)
		if !samples.SameTable(old, x) {
			others++
		}
		if one, two := classOf(t, old, new), classOf(t, x, m.Reordered(new)); one != two {
			t.Errorf("class %d, in another order %d:\n%s\nbecomes\n%s", one, two, brief(old), brief(new))
		}
	}
	if others < 1500 {
		t.Errorf("%d have another order", others)
	}
}

// TestP18_3Back: where one is Additive over the other, the other way is Breaking.
func TestP18_3Back(t *testing.T) {
	m := samples.New(1834)
	counts := map[int]int{}
	for range 10000 {
		old, new := m.TwoTables()
		there, back := classOf(t, old, new), classOf(t, new, old)
		counts[there]++
		if there == evolve.Additive && back != evolve.Breaking || there == evolve.Same && back != evolve.Same {
			t.Errorf("class %d, back %d:\n%s\nbecomes\n%s", there, back, brief(old), brief(new))
		}
	}
	if counts[evolve.Additive] < 1000 || counts[evolve.Same] < 300 {
		t.Errorf("too few: %v", counts)
	}
}

// TestP18_3Chain has three tables, each at most Additive over the one ahead of it.
func TestP18_3Chain(t *testing.T) {
	m := samples.New(1835)
	chains, wholes := 0, map[int]int{}
	for range 8000 {
		a := m.SomeTable()
		b := next(m, a)
		c := next(m, b)
		if classOf(t, a, b) > evolve.Additive || classOf(t, b, c) > evolve.Additive {
			continue
		}
		chains++
		whole := classOf(t, a, c)
		wholes[whole]++
		if whole > evolve.Additive || whole != max(classOf(t, a, b), classOf(t, b, c)) {
			t.Errorf("class %d:\n%s\nbecomes\n%s\nbecomes\n%s", whole, brief(a), brief(b), brief(c))
		}
	}
	if chains < 3000 || wholes[evolve.Same] < 100 || wholes[evolve.Additive] < 1000 {
		t.Errorf("%d chains: %v", chains, wholes)
	}
}

// next tells a good table that is mostly at most Additive over another one.
func next(m *samples.Maker, x api.Table) api.Table {
	switch m.Below(6) {
	case 0:
		return samples.GoodTable(func() api.Table { return m.Evolved(x) })
	case 1:
		return m.Reordered(x)
	case 2:
		return samples.CopyTable(x)
	}
	return m.Reordered(m.Grown(x, 2))
}

// TestP18_3Fresh: where the class is at most Additive, the numbers that Fresh tells are those of the changes, and of messages that are new there are none.
func TestP18_3Fresh(t *testing.T) {
	m := samples.New(1836)
	for range 3000 {
		old, new := m.TwoTables()
		l, class, _ := evolve.Diff(old, new)
		if class > evolve.Additive {
			continue
		}
		for _, x := range new.Types {
			var want []int
			isNew := slices.Contains(l, change{evolve.Additive, evolve.New, x.Name, 0})
			for _, c := range l {
				if c.Type == x.Name && c.What == evolve.NewField {
					want = append(want, c.Number)
				}
			}
			if x.Enum || isNew {
				lookAtFresh(t, "no message in both", old, new, x.Name, api.ErrNone)
			} else {
				lookAtFresh(t, "as the changes say", old, new, x.Name, api.OK, want...)
			}
		}
	}
}

// TestT5Compiled has bundles of files: each text over the one ahead of it.
func TestT5Compiled(t *testing.T) {
	var last api.Table
	for i, row := range []struct {
		text string
		want []change
	}{
		{"enum E { A = 0; } message M { int32 x = 1; E e = 2; reserved 8; }", []change{{evolve.Additive, evolve.New, "E", 0}, {evolve.Additive, evolve.New, "M", 0}}},
		{"message M { reserved 8; E e = 2; int32 x = 1; } enum E { A = 0; }", nil},
		{"message M { reserved 8; E e = 2; int32 x = 1; message N { } oneof o { N n = 3; string s = 4; } } enum E { A = 0; }", []change{{evolve.Additive, evolve.NewField, "M", 3}, {evolve.Additive, evolve.NewField, "M", 4}, {evolve.Additive, evolve.New, "M.N", 0}}},
		{"message M { reserved 8; E e = 2; int64 x = 1; message N { } oneof o { N n = 3; bytes t = 4; } } enum E { A = 0; B = 1; }",
			[]change{{evolve.Widening, evolve.Retyped, "M", 1}, {evolve.Widening, evolve.Renamed, "M", 4}, {evolve.Widening, evolve.Retyped, "M", 4}, {evolve.Widening, evolve.NewSymbol, "E", 1}}},
		{"message M { reserved 8, 9; E e = 2; repeated int64 x = 1; oneof o { N n = 3; bytes t = 4; } } enum E { A = 0; B = 1; } message N { }",
			[]change{{evolve.Breaking, evolve.Relabelled, "M", 1}, {evolve.Breaking, evolve.Retyped, "M", 3}, {evolve.Widening, evolve.Reserved, "M", 0}, {evolve.Breaking, evolve.Lost, "M.N", 0}, {evolve.Additive, evolve.New, "N", 0}}},
		{"message M { reserved 8 to 9; E e = 2; repeated int64 x = 1 [packed = false]; oneof p { N n = 3; bytes t = 4; } } enum N { A = 0; } enum E { A = 0; B = 1; }",
			[]change{{evolve.Widening, evolve.Relabelled, "M", 1}, {evolve.Breaking, evolve.Retyped, "M", 3}, {evolve.Breaking, evolve.Relabelled, "M", 3}, {evolve.Breaking, evolve.Relabelled, "M", 4}, {evolve.Breaking, evolve.Sort, "N", 0}}},
	} {
		x, fault := check.Compile([]api.Source{{Name: "a", Text: row.text}})
		if fault.Code != api.OK {
			t.Fatalf("text %d: fault %v", i, fault)
		}
		lookAtDiff(t, row.text, last, x, row.want...)
		last = x
	}
}
