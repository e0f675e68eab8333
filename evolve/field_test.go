package evolve_test

import (
	"fmt"
	"slices"
	"strings"
	"testing"

	"cartouche/api"
	"cartouche/evolve"
	"cartouche/samples"
)

// widerKinds are the chapter's pairs: a kind, and those that are wider.
func widerKinds() map[[2]int]struct{} {
	names := samples.Kinds()
	kind := func(s string) int { return slices.Index(names, s) + 1 }
	out := map[[2]int]struct{}{}
	for row := range strings.SplitSeq("Int32 Int64; Uint32 Uint64; Sint32 Sint64; Bool Int32 Int64 Uint32 Uint64; Enum Int32 Int64; String Bytes", ";") {
		words := strings.Fields(row)
		for _, s := range words[1:] {
			out[[2]int{kind(words[0]), kind(s)}] = struct{}{}
		}
	}
	return out
}

// ofField tells a change of the field of the tables that samples.Single tells.
func ofField(class, what int) change { return change{class, what, "T", samples.Number} }

// TestP18_1Singles has a field of each kind, label and key become one of each other.
func TestP18_1Singles(t *testing.T) {
	wider := widerKinds()
	labels := map[[2]int]int{{api.Plain, api.Optional}: 0, {api.Optional, api.Plain}: 0, {api.Repeated, api.Packed}: 0, {api.Packed, api.Repeated}: 0}
	counts := map[string]int{}
	for _, old := range samples.Singles() {
		for _, new := range samples.Singles() {
			a, b := old.Types[samples.Around].Fields[0], new.Types[samples.Around].Fields[0]
			var want []change
			if a.Kind != b.Kind {
				class := evolve.Breaking
				if _, ok := wider[[2]int{a.Kind, b.Kind}]; ok {
					class = evolve.Widening
				}
				want = append(want, ofField(class, evolve.Retyped))
			}
			if a.Label != b.Label {
				class := evolve.Breaking
				isPlain := a.Label == api.Plain || b.Label == api.Plain
				if _, ok := labels[[2]int{a.Label, b.Label}]; ok && !(isPlain && (a.Kind == api.Message || b.Kind == api.Message)) {
					class = evolve.Widening
				}
				want = append(want, ofField(class, evolve.Relabelled))
			}
			if a.Label == api.Map && b.Label == api.Map && a.Key != b.Key {
				want = append(want, ofField(evolve.Breaking, evolve.Retyped))
			}
			counts[fmt.Sprint(want)]++
			lookAtDiff(t, fmt.Sprintf("%+v becomes %+v", a, b), old, new, want...)
		}
	}
	for _, want := range [][]change{
		nil, {ofField(evolve.Widening, evolve.Retyped)}, {ofField(evolve.Breaking, evolve.Retyped)}, {ofField(evolve.Widening, evolve.Relabelled)}, {ofField(evolve.Breaking, evolve.Relabelled)},
		{ofField(evolve.Widening, evolve.Retyped), ofField(evolve.Widening, evolve.Relabelled)}, {ofField(evolve.Widening, evolve.Retyped), ofField(evolve.Breaking, evolve.Relabelled)},
		{ofField(evolve.Breaking, evolve.Retyped), ofField(evolve.Widening, evolve.Relabelled)}, {ofField(evolve.Breaking, evolve.Retyped), ofField(evolve.Breaking, evolve.Relabelled)},
		{ofField(evolve.Widening, evolve.Retyped), ofField(evolve.Breaking, evolve.Retyped)}, {ofField(evolve.Breaking, evolve.Retyped), ofField(evolve.Breaking, evolve.Retyped)},
	} {
		if counts[fmt.Sprint(want)] < 10 {
			t.Errorf("too few of %v: %v", want, counts)
		}
	}
}

// TestP18_1Fields has fields that are lost, new, and renamed.
func TestP18_1Fields(t *testing.T) {
	at := func(name string, number int) api.FieldType {
		return api.FieldType{Name: name, Number: number, Kind: api.Bool}
	}
	lost := func(n int) change { return change{evolve.Breaking, evolve.LostField, "M", n} }
	fresh := func(n int) change { return change{evolve.Additive, evolve.NewField, "M", n} }
	renamed := func(n int) change { return change{evolve.Widening, evolve.Renamed, "M", n} }
	type l = []api.FieldType
	for _, row := range []struct {
		what     string
		old, new l
		want     []change
	}{
		{"none", nil, nil, nil},
		{"the same", l{at("a", 1), at("b", 2)}, l{at("a", 1), at("b", 2)}, nil},
		{"all lost", l{at("a", 1), at("b", 2), at("c", api.MaxNumber)}, nil, []change{lost(1), lost(2), lost(api.MaxNumber)}},
		{"all new", nil, l{at("a", 1), at("b", 2), at("c", api.MaxNumber)}, []change{fresh(1), fresh(2), fresh(api.MaxNumber)}},
		{"the first lost", l{at("a", 1), at("b", 2), at("c", 3)}, l{at("b", 2), at("c", 3)}, []change{lost(1)}},
		{"one between lost", l{at("a", 1), at("b", 2), at("c", 3)}, l{at("a", 1), at("c", 3)}, []change{lost(2)}},
		{"one between new", l{at("a", 1), at("c", 3)}, l{at("a", 1), at("b", 2), at("c", 3)}, []change{fresh(2)}},
		{"new ones about", l{at("a", 5)}, l{at("b", 4), at("a", 5), at("c", 6)}, []change{fresh(4), fresh(6)}},
		{"new ones behind lost ones", l{at("b", 7), at("c", 9)}, l{at("d", 6), at("e", 8)}, []change{lost(7), lost(9), fresh(6), fresh(8)}},
		{"another number", l{at("a", 1)}, l{at("a", 2)}, []change{lost(1), fresh(2)}},
		{"another name", l{at("a", 1), at("b", 2)}, l{at("a", 1), at("B", 2)}, []change{renamed(2)}},
		{"names changed round", l{at("a", 1), at("b", 2), at("c", 3)}, l{at("c", 1), at("b", 2), at("a", 3)}, []change{renamed(1), renamed(3)}},
		{"all of it", l{at("a", 1), at("b", 3), at("c", 5)}, l{at("d", 2), at("c", 3), at("a", 5), at("b", 6)}, []change{lost(1), renamed(3), renamed(5), fresh(2), fresh(6)}},
	} {
		lookAtDiff(t, row.what, tableOf(messageOf("M", row.old...)), tableOf(messageOf("M", row.new...)), row.want...)
	}
}

// fielded tells a table: E, F (enums), A, B (messages), M with that field alone.
func fielded(f api.FieldType) api.Table {
	zero := api.Symbol{Name: "Z"}
	return tableOf(enumOf("E", zero), enumOf("F", zero), messageOf("A"), messageOf("B"), messageOf("M", f))
}

// TestP18_1Several has fields of which several things changed: each is told, in the chapter's order.
func TestP18_1Several(t *testing.T) {
	const e, f, a, b = 0, 1, 2, 3
	renamed := change{evolve.Widening, evolve.Renamed, "M", 4}
	retyped := func(class int) change { return change{class, evolve.Retyped, "M", 4} }
	relabelled := func(class int) change { return change{class, evolve.Relabelled, "M", 4} }
	field := func(name string, kind, ref, label, key int) api.FieldType {
		return api.FieldType{Name: name, Number: 4, Kind: kind, Ref: ref, Label: label, Key: key}
	}
	for _, row := range []struct {
		what     string
		old, new api.FieldType
		want     []change
	}{
		{"another enum", field("x", api.Enum, e, api.Plain, 0), field("x", api.Enum, f, api.Plain, 0), []change{retyped(evolve.Breaking)}},
		{"another message", field("x", api.Message, a, api.Repeated, 0), field("x", api.Message, b, api.Repeated, 0), []change{retyped(evolve.Breaking)}},
		{"an enum becomes a message", field("x", api.Enum, e, api.Optional, 0), field("x", api.Message, a, api.Optional, 0), []change{retyped(evolve.Breaking)}},
		{"an enum becomes a number", field("x", api.Enum, f, api.Plain, 0), field("x", api.Int32, 0, api.Plain, 0), []change{retyped(evolve.Widening)}},
		{"a number becomes an enum", field("x", api.Int32, 0, api.Plain, 0), field("x", api.Enum, f, api.Plain, 0), []change{retyped(evolve.Breaking)}},
		{"name, kind and label", field("x", api.Bool, 0, api.Plain, 0), field("y", api.Uint64, 0, api.Optional, 0), []change{renamed, retyped(evolve.Widening), relabelled(evolve.Widening)}},
		{"name, message and label", field("x", api.Message, a, api.Repeated, 0), field("y", api.Message, b, api.Optional, 0), []change{renamed, retyped(evolve.Breaking), relabelled(evolve.Breaking)}},
		{"name, enum and label", field("x", api.Enum, e, api.Repeated, 0), field("y", api.Enum, f, api.Packed, 0), []change{renamed, retyped(evolve.Breaking), relabelled(evolve.Widening)}},
		{"a message that becomes a plain text", field("x", api.Message, a, api.Optional, 0), field("x", api.String, 0, api.Plain, 0), []change{retyped(evolve.Breaking), relabelled(evolve.Breaking)}},
		{"a plain number that becomes a message", field("x", api.Int32, 0, api.Plain, 0), field("x", api.Message, b, api.Optional, 0), []change{retyped(evolve.Breaking), relabelled(evolve.Breaking)}},
		{"a key", field("x", api.Bool, 0, api.Map, api.Int32), field("x", api.Bool, 0, api.Map, api.Int64), []change{retyped(evolve.Breaking)}},
		{"kind and key", field("x", api.Bool, 0, api.Map, api.Int32), field("x", api.Int32, 0, api.Map, api.String), []change{retyped(evolve.Widening), retyped(evolve.Breaking)}},
		{"name, message and key", field("x", api.Message, a, api.Map, api.Int32), field("y", api.Message, b, api.Map, api.Bool), []change{renamed, retyped(evolve.Breaking), retyped(evolve.Breaking)}},
		{"a map becomes a list", field("x", api.Bool, 0, api.Map, api.Int32), field("x", api.Bool, 0, api.Repeated, 0), []change{relabelled(evolve.Breaking)}},
	} {
		lookAtDiff(t, row.what, fielded(row.old), fielded(row.new), row.want...)
	}
}

// TestP18_1Oneofs has members whose oneofs have other names, places, members.
func TestP18_1Oneofs(t *testing.T) {
	relabelled := func(l ...int) []change {
		var out []change
		for _, n := range l {
			out = append(out, change{evolve.Breaking, evolve.Relabelled, "W", n})
		}
		return out
	}
	look := func(what string, turn func(w *api.Type), want ...change) {
		t.Helper()
		lookAtDiff(t, what, wide(), turned(wide(), func(l []api.Type) { turn(&l[1]) }), want...)
	}
	const a1, b1, a2, b2 = 10, 11, 12, 13
	look("one has another name", func(w *api.Type) { w.Oneofs[0] = "c" }, relabelled(11, 13)...)
	look("both have", func(w *api.Type) { w.Oneofs[0], w.Oneofs[1] = "c", "d" }, relabelled(11, 12, 13, 14)...)
	look("the names changed round", func(w *api.Type) { w.Oneofs[0], w.Oneofs[1] = "b", "a" }, relabelled(11, 12, 13, 14)...)
	look("another place alone", func(w *api.Type) {
		w.Oneofs = []string{"b", "a"}
		for i := range w.Fields {
			if f := &w.Fields[i]; f.Label == api.Member {
				f.Oneof = 1 - f.Oneof
			}
		}
	})
	look("a new one ahead", func(w *api.Type) {
		w.Oneofs = []string{"n", "a", "b"}
		for i := range w.Fields {
			if f := &w.Fields[i]; f.Label == api.Member {
				f.Oneof++
			}
		}
		w.Fields = slices.Insert(w.Fields, b2+1, api.FieldType{Name: "n1", Number: 15, Kind: api.Int32, Label: api.Member})
	}, change{evolve.Additive, evolve.NewField, "W", 15})
	look("a new member", func(w *api.Type) {
		w.Fields = slices.Insert(w.Fields, b2+1, api.FieldType{Name: "b3", Number: 15, Kind: api.Int32, Label: api.Member, Oneof: 1})
	}, change{evolve.Additive, evolve.NewField, "W", 15})
	look("into the other one", func(w *api.Type) { w.Fields[a1].Oneof = 1 }, relabelled(11)...)
	look("another kind too", func(w *api.Type) { w.Fields[a1].Oneof, w.Fields[a1].Kind, w.Fields[a1].Name = 1, api.Int64, "z" },
		change{evolve.Widening, evolve.Renamed, "W", 11}, change{evolve.Widening, evolve.Retyped, "W", 11}, relabelled(11)[0])
	look("out of it", func(w *api.Type) { w.Fields[a1].Label = api.Plain }, relabelled(11)...)
	look("out of it, of a message", func(w *api.Type) { w.Fields[b1].Label, w.Fields[b1].Oneof = api.Optional, 0 }, relabelled(12)...)
	look("into it", func(w *api.Type) { w.Fields[0].Label = api.Member }, relabelled(1)...)
	look("lost", func(w *api.Type) { w.Fields = slices.Delete(w.Fields, a2, a2+1) }, change{evolve.Breaking, evolve.LostField, "W", 13})
}

// TestP18_1Refs has types at other indices: it is their names that count.
func TestP18_1Refs(t *testing.T) {
	m := func(ref int) api.Type {
		return messageOf("M", api.FieldType{Name: "x", Number: 1, Kind: api.Message, Ref: ref, Label: api.Optional})
	}
	retyped := change{evolve.Breaking, evolve.Retyped, "M", 1}
	lookAtDiff(t, "the same name elsewhere", tableOf(messageOf("A"), messageOf("B"), m(0)), tableOf(messageOf("B"), m(2), messageOf("A")))
	lookAtDiff(t, "another name at the same place", tableOf(messageOf("A"), messageOf("B"), m(0)), tableOf(messageOf("B"), messageOf("A"), m(0)), retyped)
	lookAtDiff(t, "itself", tableOf(messageOf("A"), m(1)), tableOf(m(0), messageOf("A")))
	lookAtDiff(t, "itself no more", tableOf(messageOf("A"), m(1)), tableOf(messageOf("A"), m(0)), retyped)
	lookAtDiff(t, "the same name within another one", tableOf(messageOf("A"), m(0)), tableOf(messageOf("A"), messageOf("A.A"), m(1)), retyped, change{evolve.Additive, evolve.New, "A.A", 0})
	lookAtDiff(t, "the type it had is lost", tableOf(messageOf("A"), m(0)), tableOf(messageOf("B"), m(0)), change{evolve.Breaking, evolve.Lost, "A", 0}, retyped, change{evolve.Additive, evolve.New, "B", 0})
}
