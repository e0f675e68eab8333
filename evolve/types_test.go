package evolve_test

import (
	"testing"

	"cartouche/api"
	"cartouche/evolve"
)

func TestP18_1Numbers(t *testing.T) {
	for i, n := range []int{evolve.Same, evolve.Additive, evolve.Widening, evolve.Breaking} {
		if n != i+1 {
			t.Errorf("class %d is %d", i+1, n)
		}
	}
	for i, n := range []int{evolve.Lost, evolve.Sort, evolve.LostSymbol, evolve.NewSymbol, evolve.LostField, evolve.NewField, evolve.Renamed, evolve.Retyped, evolve.Relabelled, evolve.Reserved, evolve.New} {
		if n != i+1 {
			t.Errorf("what changed, %d, is %d", i+1, n)
		}
	}
}

// of tells changes of whole types.
func of(class, what int, names ...string) []change {
	var out []change
	for _, s := range names {
		out = append(out, change{class, what, s, 0})
	}
	return out
}

// some is a table of messages and enums, by themselves and within others.
func some() api.Table {
	return tableOf(messageOf("B"), enumOf("A", api.Symbol{Name: "Z"}), messageOf("B.C"), enumOf("B.C.D", api.Symbol{Name: "Z"}, api.Symbol{Name: "Y", Number: 4}), messageOf("a"))
}

func TestP18_1LostAndNew(t *testing.T) {
	none, x := api.Table{}, some()
	lookAtDiff(t, "nothing", none, none)
	lookAtDiff(t, "all lost", x, none, of(evolve.Breaking, evolve.Lost, "B", "A", "B.C", "B.C.D", "a")...)
	lookAtDiff(t, "all new", none, x, of(evolve.Additive, evolve.New, "B", "A", "B.C", "B.C.D", "a")...)
	for i := range x.Types {
		y := tableOf(append(append([]api.Type{}, x.Types[:i]...), x.Types[i+1:]...)...)
		if i == 0 || i == 2 { // others stand within it
			continue
		}
		lookAtDiff(t, "one lost", x, y, change{evolve.Breaking, evolve.Lost, x.Types[i].Name, 0})
		lookAtDiff(t, "one new", y, x, change{evolve.Additive, evolve.New, x.Types[i].Name, 0})
	}
	lookAtDiff(t, "M lost", em(), tableOf(em().Types[0]), of(evolve.Breaking, evolve.Lost, "M")...)
	lookAtDiff(t, "M new: its fields are not told", tableOf(em().Types[0]), em(), of(evolve.Additive, evolve.New, "M")...)
}

// TestP18_1OtherNames has types with another name: those are other types.
func TestP18_1OtherNames(t *testing.T) {
	both := func(old, new string) []change {
		return append(of(evolve.Breaking, evolve.Lost, old), of(evolve.Additive, evolve.New, new)...)
	}
	for _, s := range []string{"N", "m", "MM", "M_", "E1"} {
		lookAtDiff(t, "another name", em(), turned(em(), func(l []api.Type) { l[1].Name = s }), both("M", s)...)
	}
	lookAtDiff(t, "within another one now", tableOf(messageOf("A"), messageOf("B")), tableOf(messageOf("A"), messageOf("A.B")), both("B", "A.B")...)
	lookAtDiff(t, "within no other one now", tableOf(messageOf("A"), messageOf("A.B")), tableOf(messageOf("A"), messageOf("B")), both("A.B", "B")...)
	lookAtDiff(t, "the other way within", tableOf(messageOf("A"), messageOf("A.B")), tableOf(messageOf("B"), messageOf("B.A")),
		append(of(evolve.Breaking, evolve.Lost, "A", "A.B"), of(evolve.Additive, evolve.New, "B", "B.A")...)...)
}

func TestP18_1Sort(t *testing.T) {
	fields := []api.FieldType{{Name: "x", Number: 1, Kind: api.Int32}, {Name: "y", Number: 3, Kind: api.Bool}}
	old := tableOf(enumOf("A", api.Symbol{Name: "Z"}, api.Symbol{Name: "Y", Number: 3}), api.Type{Name: "B", Fields: fields, Reserved: ranges(5, 9)})
	new := tableOf(api.Type{Name: "A", Fields: fields, Reserved: ranges(8, 8)}, enumOf("B", api.Symbol{Name: "Z"}, api.Symbol{Name: "x", Number: 1}))
	want := of(evolve.Breaking, evolve.Sort, "A", "B")
	lookAtDiff(t, "both sorts", old, new, want...)
	lookAtDiff(t, "the other way", new, old, want...)
	lookAtDiff(t, "an empty message", some(), turned(some(), func(l []api.Type) { l[4] = enumOf("a", api.Symbol{Name: "Z"}) }), of(evolve.Breaking, evolve.Sort, "a")...)
	lookAtDiff(t, "a field of it is of another kind", tableOf(enumOf("A", api.Symbol{Name: "Z"}), messageOf("M", api.FieldType{Name: "x", Number: 1, Kind: api.Enum, Label: api.Optional})),
		tableOf(messageOf("A"), messageOf("M", api.FieldType{Name: "x", Number: 1, Kind: api.Message, Label: api.Optional})),
		change{evolve.Breaking, evolve.Sort, "A", 0}, change{evolve.Breaking, evolve.Retyped, "M", 1})
}

// TestP18_1Symbols has enums E, by their symbols.
func TestP18_1Symbols(t *testing.T) {
	const high = 1<<31 - 1
	sym := func(name string, number int) api.Symbol { return api.Symbol{Name: name, Number: number} }
	lost := func(n int) change { return change{evolve.Breaking, evolve.LostSymbol, "E", n} }
	fresh := func(n int) change { return change{evolve.Widening, evolve.NewSymbol, "E", n} }
	renamed := func(n int) change { return change{evolve.Widening, evolve.Renamed, "E", n} }
	for _, row := range []struct {
		what     string
		old, new []api.Symbol
		want     []change
	}{
		{"the same", []api.Symbol{sym("A", 0), sym("B", 5)}, []api.Symbol{sym("A", 0), sym("B", 5)}, nil},
		{"another order", []api.Symbol{sym("A", 0), sym("B", 5), sym("C", 2)}, []api.Symbol{sym("A", 0), sym("C", 2), sym("B", 5)}, nil},
		{"lost", []api.Symbol{sym("A", 0), sym("B", 5)}, []api.Symbol{sym("A", 0)}, []change{lost(5)}},
		{"new", []api.Symbol{sym("A", 0)}, []api.Symbol{sym("A", 0), sym("B", 5)}, []change{fresh(5)}},
		{"another name", []api.Symbol{sym("A", 0), sym("B", 5)}, []api.Symbol{sym("A", 0), sym("C", 5)}, []change{renamed(5)}},
		{"another name of 0", []api.Symbol{sym("A", 0), sym("B", 5)}, []api.Symbol{sym("a", 0), sym("B", 5)}, []change{renamed(0)}},
		{"names changed round", []api.Symbol{sym("A", 0), sym("B", 5)}, []api.Symbol{sym("B", 0), sym("A", 5)}, []change{renamed(0), renamed(5)}},
		{"another number", []api.Symbol{sym("A", 0), sym("B", 5)}, []api.Symbol{sym("A", 0), sym("B", 6)}, []change{lost(5), fresh(6)}},
		{"lost ones in the old order", []api.Symbol{sym("A", 0), sym("B", high), sym("C", 7), sym("D", 1)}, []api.Symbol{sym("A", 0)}, []change{lost(high), lost(7), lost(1)}},
		{"new ones in the new order", []api.Symbol{sym("A", 0)}, []api.Symbol{sym("A", 0), sym("B", high), sym("C", 7), sym("D", 1)}, []change{fresh(high), fresh(7), fresh(1)}},
		{"renamed ones in the old order", []api.Symbol{sym("A", 0), sym("B", 3), sym("C", 2)}, []api.Symbol{sym("X", 0), sym("Y", 2), sym("Z", 3)}, []change{renamed(0), renamed(3), renamed(2)}},
		{"all of it", []api.Symbol{sym("A", 0), sym("B", 9), sym("C", 2), sym("D", 4), sym("F", 3)}, []api.Symbol{sym("A", 0), sym("G", 8), sym("B", 4), sym("X", 2), sym("F", 3), sym("D", 1)}, []change{lost(9), renamed(2), renamed(4), fresh(8), fresh(1)}},
	} {
		lookAtDiff(t, row.what, tableOf(enumOf("E", row.old...)), tableOf(enumOf("E", row.new...)), row.want...)
	}
	lookAtDiff(t, "of the enum that has that name", some(), turned(some(), func(l []api.Type) { l[3].Symbols[1].Name = "X" }), change{evolve.Widening, evolve.Renamed, "B.C.D", 4})
}

// TestP18_1Order has each sort of change, over several types: those of a type stand together, by the old table's order, and new types behind all.
func TestP18_1Order(t *testing.T) {
	field := func(name string, number int) api.FieldType {
		return api.FieldType{Name: name, Number: number, Kind: api.Int32}
	}
	old := tableOf(
		api.Type{Name: "M", Fields: []api.FieldType{field("a", 2), field("b", 4), field("c", 6), field("d", 8)}, Reserved: ranges(20, 21)},
		messageOf("L"),
		enumOf("E", api.Symbol{Name: "A"}, api.Symbol{Name: "B", Number: 1}),
		messageOf("S"),
		messageOf("K", field("a", 1)))
	long, text, opt := field("c", 6), field("d", 8), field("f", 9)
	long.Kind, text.Kind, opt.Label = api.Int64, api.String, api.Optional
	text.Label = api.Optional
	new := tableOf(
		messageOf("Y"),
		messageOf("K", field("k", 1)),
		enumOf("S", api.Symbol{Name: "A"}),
		messageOf("Z"),
		enumOf("E", api.Symbol{Name: "C"}, api.Symbol{Name: "D", Number: 7}),
		messageOf("E2"),
		api.Type{Name: "M", Fields: []api.FieldType{field("e", 1), field("x", 4), long, text, opt}, Reserved: ranges(20, 20)})
	lookAtDiff(t, "all", old, new,
		change{evolve.Breaking, evolve.LostField, "M", 2}, change{evolve.Widening, evolve.Renamed, "M", 4}, change{evolve.Widening, evolve.Retyped, "M", 6},
		change{evolve.Breaking, evolve.Retyped, "M", 8}, change{evolve.Widening, evolve.Relabelled, "M", 8},
		change{evolve.Additive, evolve.NewField, "M", 1}, change{evolve.Additive, evolve.NewField, "M", 9}, change{evolve.Breaking, evolve.Reserved, "M", 0},
		change{evolve.Breaking, evolve.Lost, "L", 0},
		change{evolve.Widening, evolve.Renamed, "E", 0}, change{evolve.Breaking, evolve.LostSymbol, "E", 1}, change{evolve.Widening, evolve.NewSymbol, "E", 7},
		change{evolve.Breaking, evolve.Sort, "S", 0},
		change{evolve.Widening, evolve.Renamed, "K", 1},
		change{evolve.Additive, evolve.New, "Y", 0}, change{evolve.Additive, evolve.New, "Z", 0}, change{evolve.Additive, evolve.New, "E2", 0})
}

// TestP18_1Worst has the worst class ahead of better ones and behind them.
func TestP18_1Worst(t *testing.T) {
	base := tableOf(messageOf("A", em().Types[1].Fields[:2]...), messageOf("B", em().Types[1].Fields[:2]...), messageOf("C", em().Types[1].Fields[:2]...))
	grow := func(x *api.Type) {
		x.Fields = append(x.Fields, api.FieldType{Name: "s", Number: 4, Kind: api.String})
	}
	rename := func(x *api.Type) { x.Fields[0].Name = "y" }
	lose := func(x *api.Type) { x.Fields = x.Fields[1:] }
	keep := func(*api.Type) {}
	for _, row := range []struct {
		do   [3]func(*api.Type)
		want int
	}{
		{[3]func(*api.Type){keep, keep, keep}, evolve.Same},
		{[3]func(*api.Type){keep, grow, keep}, evolve.Additive},
		{[3]func(*api.Type){grow, grow, grow}, evolve.Additive},
		{[3]func(*api.Type){rename, grow, keep}, evolve.Widening},
		{[3]func(*api.Type){keep, grow, rename}, evolve.Widening},
		{[3]func(*api.Type){lose, rename, grow}, evolve.Breaking},
		{[3]func(*api.Type){rename, lose, rename}, evolve.Breaking},
		{[3]func(*api.Type){grow, rename, lose}, evolve.Breaking},
	} {
		new := turned(base, func(l []api.Type) {
			for i := range l {
				row.do[i](&l[i])
			}
		})
		if _, class, e := evolve.Diff(base, new); class != row.want || e != api.OK {
			t.Errorf("class %d, error %d, want %d: %s", class, e, row.want, brief(new))
		}
	}
}
