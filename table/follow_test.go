package table_test

import (
	"fmt"
	"strings"
	"testing"

	"cartouche/api"
	"cartouche/check"
	"cartouche/samples"
	"cartouche/table"
)

// TestP7_5Compiled has tables by chance written as files: what is compiled of them is good, and the table.
func TestP7_5Compiled(t *testing.T) {
	m := samples.New(75)
	for range 1500 {
		x := m.Rich()
		file := samples.File(x)
		got, fault := check.Compile([]api.Source{{Name: "a", Text: file}})
		if fault.Code != api.OK || !samples.SameTable(got, x) {
			t.Fatalf("Compile(%s): fault %v\n%+v, want\n%+v", file, fault, got, x)
		}
		lookAtGood(t, file, got, true)
	}
}

func TestP7_5CompiledEdges(t *testing.T) {
	repeat := func(count int, part string) string {
		var b strings.Builder
		for i := range count {
			b.WriteString(strings.ReplaceAll(part, "#", fmt.Sprint(i)))
		}
		return b.String()
	}
	for _, file := range []string{
		"",
		strings.Repeat("message A { ", api.MaxNest) + "enum E { Z = 0; }" + strings.Repeat(" }", api.MaxNest),
		repeat(api.MaxTypes, "message M# {}\n"),
		"message M { " + repeat(api.MaxFields, "bool f# = 1#; ") + "}",
		"message M { " + repeat(api.MaxFields, "oneof o# { bool f# = 1#; } ") + "}",
		"message M { " + repeat(api.MaxFields, "reserved 1#; ") + "}",
		"enum E { Z = 0; " + repeat(api.MaxFields-2, "S# = 1#; ") + "Y = 2147483647; }",
		"message M { bool a = 536870911; bool b = 1; reserved 3 to 536870910, 2; }",
		"message M { M m = 2; repeated M l = 1; map<string, M> k = 4; oneof o { M n = 3; E e = 5; } } enum E { A = 0; }",
	} {
		got, fault := check.Compile([]api.Source{{Name: "a", Text: file}})
		if fault.Code != api.OK {
			t.Errorf("Compile(%.60s ..): fault %v", file, fault)
		}
		lookAtGood(t, file, got, true)
	}
}

// TestP7_5Files has bundles of files that import one another.
func TestP7_5Files(t *testing.T) {
	got, fault := check.Compile([]api.Source{
		{Name: "a", Text: `import "b"; import "c"; message A { B b = 1; C.D d = 2; repeated E e = 3; }`},
		{Name: "b", Text: `import "c"; message B { map<int32, C> c = 1; }`},
		{Name: "c", Text: `message C { message D { C c = 1; } } enum E { Z = 0; Y = 9; }`},
	})
	if fault.Code != api.OK || len(got.Types) != 5 {
		t.Fatalf("Compile: %+v, fault %v", got, fault)
	}
	lookAtGood(t, "three files", got, true)
	lookAt(t, "A, that holds B, that holds C", depths(got, 0), answer{number: 3})
	lookAt(t, "C.D, that holds C", depths(got, 3), answer{number: 2})
	lookAt(t, "C.D", find(got, "C.D"), answer{number: 3})
	lookAt(t, "Y", number(got, 4, "Y"), answer{number: 9})
}

// TestP7_5OneMore puts a type that is good alone behind others: what it held of itself it holds at its new place.
func TestP7_5OneMore(t *testing.T) {
	m := samples.New(76)
	for range 2000 {
		x := m.Rich()
		more := m.Rich().Types[0]
		more.Name = samples.Pick(m, "More", "more_1", "A_", "E", "M")
		for i, f := range more.Fields {
			more.Fields[i].Ref = 0
			if f.Kind >= api.Enum {
				more.Fields[i].Kind = api.Message
			}
			if f.Kind == api.Enum && (f.Label == api.Plain || f.Label == api.Packed) {
				more.Fields[i].Label = api.Optional
			}
		}
		lookAtGood(t, "alone", tableOf(more), true)
		for i := range more.Fields {
			if more.Fields[i].Kind == api.Message {
				more.Fields[i].Ref = len(x.Types)
			}
		}
		before := samples.CopyTable(x)
		y := tableOf(append(samples.CopyTable(x).Types, more)...)
		lookAtGood(t, "one more", y, true)
		lookAt(t, "the one more", find(y, more.Name), answer{number: len(x.Types)})
		for i := range x.Types {
			if a, b := depths(x, i), depths(y, i); a != b {
				t.Errorf("Depths(%+v, %d): %+v, with one more %+v", x, i, a, b)
			}
		}
		twice := tableOf(append(samples.CopyTable(x).Types, api.Type{Name: samples.Pick(m, before.Types...).Name})...)
		lookAtGood(t, "one that has another one's name", twice, false)
	}
	full := tableOf(messages(api.MaxTypes - 1)...)
	lookAtGood(t, "the last one", tableOf(append(full.Types, messageOf("N"))...), true)
	lookAtGood(t, "one too many", tableOf(append(messages(api.MaxTypes), messageOf("N"))...), false)
	if !table.Good(tableOf(messageOf("N"))) {
		t.Error("N alone")
	}
}
