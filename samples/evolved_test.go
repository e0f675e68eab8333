package samples_test

import (
	"slices"
	"testing"

	"cartouche/api"
	"cartouche/samples"
	"cartouche/table"
)

// TestGrown sees that all that was there is there still, at its place, and that something is new mostly.
func TestGrown(t *testing.T) {
	m := samples.New(11)
	more := 0
	for range 2000 {
		x := samples.Pick(m, m.Table(), m.Rich(), samples.Wide(), api.Table{})
		before := samples.WhollyTable(x)
		y := m.Grown(x, 3)
		if !table.Good(y) || len(y.Types) < len(x.Types) || len(y.Types) > len(x.Types)+3 {
			t.Fatalf("%+v\nbecomes %+v", x, y)
		}
		for i, old := range x.Types {
			now := y.Types[i]
			now.Fields = slices.DeleteFunc(slices.Clone(now.Fields), func(f api.FieldType) bool { return !slices.Contains(old.Fields, f) })
			now.Oneofs = now.Oneofs[:len(old.Oneofs)]
			if !samples.SameType(old, now) {
				t.Errorf("%+v\nbecomes %+v", old, y.Types[i])
			}
		}
		if !samples.SameTable(x, y) {
			more++
		}
		if samples.WhollyTable(x) != before || samples.SharesTable(y, x) {
			t.Errorf("changed: %s", before)
		}
	}
	if more < 1200 {
		t.Errorf("%d have something new", more)
	}
}

// TestReordered sees that each type stands there once, and names the types that it named.
func TestReordered(t *testing.T) {
	m := samples.New(12)
	others := 0
	for range 2000 {
		x := samples.Pick(m, m.Table(), m.Rich(), samples.Wide(), api.Table{})
		before := samples.WhollyTable(x)
		y := m.Reordered(x)
		if !table.Good(y) || len(y.Types) != len(x.Types) {
			t.Fatalf("%+v\nbecomes %+v", x, y)
		}
		for _, old := range x.Types {
			i, _ := table.Find(y, old.Name)
			now := y.Types[i]
			now.Fields = slices.Clone(now.Fields)
			for at, f := range now.Fields {
				if f.Kind >= api.Enum {
					now.Fields[at].Ref, _ = table.Find(x, y.Types[f.Ref].Name)
				}
			}
			if !samples.SameType(old, now) {
				t.Errorf("%+v\nbecomes %+v", old, now)
			}
		}
		if !samples.SameTable(x, y) {
			others++
		}
		if samples.WhollyTable(x) != before || samples.SharesTable(y, x) {
			t.Errorf("changed: %s", before)
		}
	}
	if others < 1000 {
		t.Errorf("%d have another order", others)
	}
}

// TestEvolved sees that most are good, and others than before.
func TestEvolved(t *testing.T) {
	m := samples.New(13)
	good, others := 0, 0
	for range 3000 {
		x := samples.Pick(m, m.Table(), m.Rich(), samples.Wide(), api.Table{})
		before := samples.WhollyTable(x)
		y := m.Evolved(x)
		if table.Good(y) {
			good++
		}
		if !samples.SameTable(x, y) {
			others++
		}
		if samples.WhollyTable(x) != before || samples.SharesTable(y, x) {
			t.Errorf("changed: %s", before)
		}
	}
	if good < 2400 || others < 2400 {
		t.Errorf("%d are good, %d others than before", good, others)
	}
}

// TestTwoTables sees that both are good, and alike or not.
func TestTwoTables(t *testing.T) {
	m := samples.New(14)
	alike := 0
	for range 1500 {
		x, y := m.TwoTables()
		if !table.Good(x) || !table.Good(y) || !table.Good(m.SomeTable()) {
			t.Fatalf("%+v\nand %+v", x, y)
		}
		if slices.ContainsFunc(x.Types, func(a api.Type) bool {
			return slices.ContainsFunc(y.Types, func(b api.Type) bool { return samples.SameType(a, b) })
		}) {
			alike++
		}
	}
	if alike < 800 || alike == 1500 {
		t.Errorf("%d have a type in common", alike)
	}
}

// TestAnyTable sees that there are good tables and others, and names of types and others.
func TestAnyTable(t *testing.T) {
	m := samples.New(15)
	good, named := 0, 0
	for range 1500 {
		x := m.AnyTable()
		if table.Good(x) {
			good++
		}
		name := m.AnyName(x)
		if slices.ContainsFunc(x.Types, func(y api.Type) bool { return y.Name == name }) {
			named++
		}
	}
	if good < 400 || good > 1100 || named < 400 || named > 1300 {
		t.Errorf("%d are good, %d names are a type's", good, named)
	}
}
