package evolve_test

import (
	"fmt"
	"slices"
	"testing"

	"cartouche/api"
	"cartouche/evolve"
	"cartouche/samples"
)

// reader reads the chapter's words a second time, one table beside the other.
type reader struct {
	old, new api.Table
	out      []change
}

func (r *reader) say(isSo bool, class, what int, name string, number int) {
	if isSo {
		r.out = append(r.out, change{class, what, name, number})
	}
}

// found tells the types of a table with a name: one or none.
func found(x api.Table, name string) []api.Type {
	return slices.DeleteFunc(slices.Clone(x.Types), func(y api.Type) bool { return y.Name != name })
}

func (r *reader) read() []change {
	for _, x := range r.old.Types {
		l := found(r.new, x.Name)
		switch {
		case len(l) == 0:
			r.say(true, evolve.Breaking, evolve.Lost, x.Name, 0)
		case l[0].Enum != x.Enum:
			r.say(true, evolve.Breaking, evolve.Sort, x.Name, 0)
		case x.Enum:
			r.enum(x, l[0])
		default:
			r.message(x, l[0])
		}
	}
	for _, y := range r.new.Types {
		r.say(len(found(r.old, y.Name)) == 0, evolve.Additive, evolve.New, y.Name, 0)
	}
	return r.out
}

func (r *reader) enum(x, y api.Type) {
	hasNumber := func(l []api.Symbol, n int) bool {
		return slices.ContainsFunc(l, func(s api.Symbol) bool { return s.Number == n })
	}
	for _, s := range x.Symbols {
		r.say(!hasNumber(y.Symbols, s.Number), evolve.Breaking, evolve.LostSymbol, x.Name, s.Number)
		r.say(hasNumber(y.Symbols, s.Number) && !slices.Contains(y.Symbols, s), evolve.Widening, evolve.Renamed, x.Name, s.Number)
	}
	for _, s := range y.Symbols {
		r.say(!hasNumber(x.Symbols, s.Number), evolve.Widening, evolve.NewSymbol, x.Name, s.Number)
	}
}

func (r *reader) message(x, y api.Type) {
	before, after := map[int]api.FieldType{}, map[int]api.FieldType{}
	for _, f := range x.Fields {
		before[f.Number] = f
	}
	for _, f := range y.Fields {
		after[f.Number] = f
	}
	for _, f := range x.Fields {
		g, ok := after[f.Number]
		r.say(!ok, evolve.Breaking, evolve.LostField, x.Name, f.Number)
		if ok {
			r.field(x, y, f, g)
		}
	}
	for _, g := range y.Fields {
		_, ok := before[g.Number]
		r.say(!ok, evolve.Additive, evolve.NewField, x.Name, g.Number)
	}
	both, lost := true, false
	for _, n := range edges(x, y) {
		inOld, inNew := isReserved(x, n), isReserved(y, n)
		both = both && inOld == inNew
		lost = lost || inOld && !inNew
	}
	r.say(!both && !lost, evolve.Widening, evolve.Reserved, x.Name, 0)
	r.say(lost, evolve.Breaking, evolve.Reserved, x.Name, 0)
}

// edges tells the numbers at which something begins or ends to be reserved: if two types have the same there, they have it everywhere.
func edges(l ...api.Type) []int {
	var out []int
	for _, x := range l {
		for _, r := range x.Reserved {
			out = append(out, r.Low-1, r.Low, r.High, r.High+1)
		}
	}
	return out
}

func isReserved(x api.Type, number int) bool {
	return slices.ContainsFunc(x.Reserved, func(r api.Range) bool { return r.Low <= number && number <= r.High })
}

func (r *reader) field(x, y api.Type, f, g api.FieldType) {
	_, isWider := widerKinds()[[2]int{f.Kind, g.Kind}]
	isNamed := f.Kind == api.Enum || f.Kind == api.Message
	labels := fmt.Sprint(f.Label, " ", g.Label)
	isSingle := f.Kind != api.Message && g.Kind != api.Message
	mayBe := isSingle && (labels == "0 1" || labels == "1 0") || labels == "2 3" || labels == "3 2"
	say := func(isSo bool, class, what int) { r.say(isSo, class, what, x.Name, f.Number) }
	say(f.Name != g.Name, evolve.Widening, evolve.Renamed)
	say(f.Kind != g.Kind && isWider, evolve.Widening, evolve.Retyped)
	say(f.Kind != g.Kind && !isWider, evolve.Breaking, evolve.Retyped)
	say(f.Kind == g.Kind && isNamed && r.old.Types[f.Ref].Name != r.new.Types[g.Ref].Name, evolve.Breaking, evolve.Retyped)
	say(f.Label != g.Label && mayBe, evolve.Widening, evolve.Relabelled)
	say(f.Label != g.Label && !mayBe, evolve.Breaking, evolve.Relabelled)
	say(f.Label == api.Member && g.Label == api.Member && x.Oneofs[f.Oneof] != y.Oneofs[g.Oneof], evolve.Breaking, evolve.Relabelled)
	say(f.Label == api.Map && g.Label == api.Map && f.Key != g.Key, evolve.Breaking, evolve.Retyped)
}

// TestP18_1Chance holds many tables against each other; each change with each class that it can have must come often.
func TestP18_1Chance(t *testing.T) {
	m := samples.New(1811)
	counts := map[[2]int]int{}
	classes := map[int]int{}
	for range 20000 {
		old, new := m.TwoTables()
		want := (&reader{old: old, new: new}).read()
		lookAtDiff(t, fmt.Sprintf("%s\nbecomes\n%s", brief(old), brief(new)), old, new, want...)
		for _, c := range want {
			counts[[2]int{c.What, c.Class}]++
		}
		classes[worst(want)]++
	}
	for what := evolve.Lost; what <= evolve.New; what++ {
		of := []int{evolve.Breaking}
		switch what {
		case evolve.NewField, evolve.New:
			of = []int{evolve.Additive}
		case evolve.NewSymbol, evolve.Renamed:
			of = []int{evolve.Widening}
		case evolve.Retyped, evolve.Relabelled, evolve.Reserved:
			of = []int{evolve.Widening, evolve.Breaking}
		}
		for _, class := range of {
			if counts[[2]int{what, class}] < 100 {
				t.Errorf("too few of %d, class %d: %v", what, class, counts)
			}
			delete(counts, [2]int{what, class})
		}
	}
	if len(counts) > 0 {
		t.Errorf("changes of a class that they can't have: %v", counts)
	}
	for class := evolve.Same; class <= evolve.Breaking; class++ {
		if classes[class] < 500 {
			t.Errorf("too few of class %d: %v", class, classes)
		}
	}
}

// TestP18_2Chance holds Fresh of all names of both tables against the fields.
func TestP18_2Chance(t *testing.T) {
	m := samples.New(1812)
	counts := map[string]int{}
	for range 4000 {
		old, new := m.TwoTables()
		for _, x := range slices.Concat(old.Types, new.Types, []api.Type{messageOf("none")}) {
			var want []int
			wantE := api.ErrNone
			a, b := found(old, x.Name), found(new, x.Name)
			if len(a) == 1 && len(b) == 1 && !a[0].Enum && !b[0].Enum {
				wantE = api.OK
				for _, f := range b[0].Fields {
					if !slices.ContainsFunc(a[0].Fields, func(g api.FieldType) bool { return g.Number == f.Number }) {
						want = append(want, f.Number)
					}
				}
			}
			counts[fmt.Sprint(int(wantE), min(len(want), 2))]++
			lookAtFresh(t, brief(old)+brief(new), old, new, x.Name, wantE, want...)
		}
	}
	for _, s := range []string{"0 0", "0 1", "0 2", "20 0"} {
		if counts[s] < 500 {
			t.Errorf("too few: %v", counts)
		}
	}
}
