package parse_test

import (
	"math"
	"strings"
	"testing"

	"cartouche/api"
	"cartouche/parse"
)

// fieldsOf is the fields of a message with those members.
func fieldsOf(t *testing.T, members string) []parse.Field {
	t.Helper()
	f := treeOf(t, "message A {\n"+members+"\n}")
	if len(f.Decls) != 1 {
		t.Fatalf("%q: %+v", members, f)
	}
	return f.Decls[0].Fields
}

func lookAtField(t *testing.T, member string, want parse.Field) {
	t.Helper()
	if l := fieldsOf(t, member); len(l) != 1 || l[0] != want {
		t.Errorf("%q: %+v, want %+v", member, l, want)
	}
}

func TestP5_2Examples(t *testing.T) {
	lookAtTree(t, "message A { optional int32 x = 1; }", parse.File{Decls: []parse.Decl{{Name: "A", At: at(1, 9), Fields: []parse.Field{
		{Name: "x", Type: "int32", Number: 1, Label: api.Optional, At: at(1, 28), NumberAt: at(1, 32), TypeAt: at(1, 22), MarkAt: at(1, 13)},
	}}}})
	lookAtTree(t, "enum E { Z = 0; }", parse.File{Decls: []parse.Decl{{Enum: true, Name: "E", At: at(1, 6), Symbols: []parse.Symbol{
		{Name: "Z", Number: 0, At: at(1, 10), NumberAt: at(1, 14)},
	}}}})
	lookAtTree(t, `import "a"; message M { oneof o { A.B x = 1; C y = 2; } map<string, M> m = 3; }`, parse.File{
		Imports: []parse.Import{{Name: "a", At: at(1, 8)}},
		Decls: []parse.Decl{{Name: "M", At: at(1, 21), Oneofs: []parse.Oneof{{Name: "o", At: at(1, 31)}}, Fields: []parse.Field{
			{Name: "x", Type: "A.B", Number: 1, Label: api.Member, At: at(1, 39), NumberAt: at(1, 43), TypeAt: at(1, 35)},
			{Name: "y", Type: "C", Number: 2, Label: api.Member, At: at(1, 48), NumberAt: at(1, 52), TypeAt: at(1, 46)},
			{Name: "m", Type: "M", Key: "string", Number: 3, Label: api.Map, At: at(1, 72), NumberAt: at(1, 76), TypeAt: at(1, 69), MarkAt: at(1, 61)},
		}}},
	})
	lookAtTree(t, "message A { reserved 1 to 2, 5; }", parse.File{Decls: []parse.Decl{{Name: "A", At: at(1, 9), Reserved: []parse.Range{
		{Low: 1, High: 2, At: at(1, 22)}, {Low: 5, High: 5, At: at(1, 30)},
	}}}})
}

func TestP5_2Labels(t *testing.T) {
	lookAtField(t, "B x = 7;", parse.Field{Name: "x", Type: "B", Number: 7, Label: api.Plain, TypeAt: at(2, 1), At: at(2, 3), NumberAt: at(2, 7)})
	lookAtField(t, "optional B x = 7;", parse.Field{Name: "x", Type: "B", Number: 7, Label: api.Optional, MarkAt: at(2, 1), TypeAt: at(2, 10), At: at(2, 12), NumberAt: at(2, 16)})
	lookAtField(t, "repeated B x = 7;", parse.Field{Name: "x", Type: "B", Number: 7, Label: api.Repeated, MarkAt: at(2, 1), TypeAt: at(2, 10), At: at(2, 12), NumberAt: at(2, 16)})
	lookAtField(t, "map<K, B> x = 7;", parse.Field{Name: "x", Type: "B", Key: "K", Number: 7, Label: api.Map, MarkAt: at(2, 5), TypeAt: at(2, 8), At: at(2, 11), NumberAt: at(2, 15)})
	lookAtField(t, "oneof o { B x = 7; }", parse.Field{Name: "x", Type: "B", Number: 7, Label: api.Member, TypeAt: at(2, 11), At: at(2, 13), NumberAt: at(2, 17)})
}

// TestP5_2Mark has MarkAt's cases: packed goes ahead of the label's word.
func TestP5_2Mark(t *testing.T) {
	for _, x := range []struct {
		member         string
		label, packed  int
		mark, typeAt   parse.Place
		nameAt, number parse.Place
	}{
		{"B x = 7 [packed = true];", api.Plain, 1, at(2, 10), at(2, 1), at(2, 3), at(2, 7)},
		{"B x = 7 [packed = false];", api.Plain, 2, at(2, 10), at(2, 1), at(2, 3), at(2, 7)},
		{"optional B x = 7 [packed = true];", api.Optional, 1, at(2, 19), at(2, 10), at(2, 12), at(2, 16)},
		{"repeated B x = 7 [packed = false];", api.Repeated, 2, at(2, 19), at(2, 10), at(2, 12), at(2, 16)},
		{"repeated B x = 7\n[\n\n packed = true];", api.Repeated, 1, at(5, 2), at(2, 10), at(2, 12), at(2, 16)},
	} {
		lookAtField(t, x.member, parse.Field{Name: "x", Type: "B", Number: 7, Label: x.label, Packed: x.packed, MarkAt: x.mark, TypeAt: x.typeAt, At: x.nameAt, NumberAt: x.number})
	}
	// What one field says is not left for the next one.
	l := fieldsOf(t, "repeated B x = 7 [packed = true]; B y = 8; map<K, B> z = 9; B w = 1; oneof o { B v = 2; }")
	for _, i := range []int{1, 3, 4} {
		if l[i].MarkAt != at(0, 0) || l[i].Packed != 0 || l[i].Key != "" {
			t.Errorf("field %d: %+v", i, l[i])
		}
	}
	if l[2].MarkAt != at(2, 48) || l[2].Packed != 0 {
		t.Errorf("the map: %+v", l[2])
	}
}

func TestP5_2Types(t *testing.T) {
	for written, want := range map[string]string{
		"A": "A", "A.B": "A.B", "A.B.C": "A.B.C", "A . B": "A.B", "A\n./* x */B // y\n.\tC": "A.B.C", "to.message.map": "to.message.map", "_._": "_._", "int32": "int32",
		strings.TrimSuffix(strings.Repeat("a . ", 2000), " . "): strings.TrimSuffix(strings.Repeat("a.", 2000), "."),
	} {
		for label, member := range map[int]string{api.Plain: written + " x = 1;", api.Optional: "optional " + written + " x = 1;", api.Map: "map<K," + written + "> x = 1;", api.Member: "oneof o {" + written + " x = 1; }"} {
			l := fieldsOf(t, member)
			if len(l) != 1 || l[0].Type != want || l[0].Label != label || l[0].Name != "x" {
				t.Errorf("%q: %+v", member, l)
			}
		}
	}
}

// TestP5_2KeywordTypes has the names that begin a member as types, where they are types like others.
func TestP5_2KeywordTypes(t *testing.T) {
	for _, k := range append([]string{"a"}, keywords...) {
		for _, written := range []string{k, k + ".b", "b." + k, k + "." + k} {
			l := fieldsOf(t, "oneof o { "+written+" x = 1; "+written+" y = 2; } optional "+written+" z = 3; repeated "+written+" w = 4; map<"+k+", "+written+"> v = 5;")
			if len(l) != 5 {
				t.Fatalf("%s: %+v", written, l)
			}
			for i, label := range []int{api.Member, api.Member, api.Optional, api.Repeated, api.Map} {
				if l[i].Type != written || l[i].Label != label {
					t.Errorf("%s: field %d: %+v", written, i, l[i])
				}
			}
			if l[4].Key != k {
				t.Errorf("%s: key %s", k, l[4].Key)
			}
		}
	}
	for _, k := range keywords[len(beginners):] {
		lookAtField(t, k+" x = 1;", parse.Field{Name: "x", Type: k, Number: 1, TypeAt: at(2, 1), At: at(2, 2+len(k)), NumberAt: at(2, 6+len(k))})
		lookAtField(t, k+"."+k+" x = 1;", parse.Field{Name: "x", Type: k + "." + k, Number: 1, TypeAt: at(2, 1), At: at(2, 3+2*len(k)), NumberAt: at(2, 7+2*len(k))})
	}
	// As the first word of a member they are none.
	for _, k := range beginners {
		_, fault := parse.Parse("message A { " + k + " x = 1; }")
		if fault.Code != api.ErrSyntax {
			t.Errorf("%s as a plain field's type: fault %v", k, fault)
		}
	}
}

// TestP5_2KeywordNames has the keywords as names of all that has one.
func TestP5_2KeywordNames(t *testing.T) {
	for _, k := range append([]string{"Message", "mapx", "_map", "x"}, keywords...) {
		f := treeOf(t, strings.ReplaceAll("message K { a K = 1; optional a K = 2; repeated a K = 3; map<a, a> K = 4; oneof K { a K = 5; } message K {} enum K { K = 6; } } enum K { K = 7; }", "K", k))
		if len(f.Decls) != 2 {
			t.Fatalf("%s: %+v", k, f)
		}
		m, e := f.Decls[0], f.Decls[1]
		if m.Enum || m.Name != k || !e.Enum || e.Name != k || len(e.Symbols) != 1 || e.Symbols[0].Name != k || e.Symbols[0].Number != 7 {
			t.Errorf("%s: %+v", k, f)
		}
		if len(m.Oneofs) != 1 || m.Oneofs[0].Name != k || len(m.Decls) != 2 || m.Decls[0].Name != k || m.Decls[1].Name != k || m.Decls[1].Symbols[0].Name != k {
			t.Errorf("%s: %+v", k, m)
		}
		if len(m.Fields) != 5 {
			t.Fatalf("%s: %+v", k, m.Fields)
		}
		for i, x := range m.Fields {
			if x.Name != k || x.Number != uint64(i+1) {
				t.Errorf("%s: field %d: %+v", k, i, x)
			}
		}
	}
}

func TestP5_2Oneofs(t *testing.T) {
	f := treeOf(t, "message A { B a = 1; oneof o { B b = 2; } B c = 3; oneof p {\nB d = 4; B e = 5; } oneof o { B f = 6; } B g = 7; }")
	m := f.Decls[0]
	names, oneofs, labels := "abcdefg", []int{0, 0, 0, 1, 1, 2, 0}, []int{api.Plain, api.Member, api.Plain, api.Member, api.Member, api.Member, api.Plain}
	if len(m.Fields) != len(names) || len(m.Oneofs) != 3 {
		t.Fatalf("%+v", m)
	}
	for i, x := range m.Fields {
		if x.Name != names[i:i+1] || x.Oneof != oneofs[i] || x.Label != labels[i] || x.Number != uint64(i+1) || x.MarkAt != at(0, 0) {
			t.Errorf("field %d: %+v", i, x)
		}
	}
	for i, want := range []parse.Oneof{{Name: "o", At: at(1, 28)}, {Name: "p", At: at(1, 58)}, {Name: "o", At: at(2, 27)}} {
		if m.Oneofs[i] != want {
			t.Errorf("oneof %d: %+v, want %+v", i, m.Oneofs[i], want)
		}
	}
	// Each message counts its own.
	f = treeOf(t, "message A { oneof o { B b = 2; } message C { oneof p { B d = 4; } } oneof q { B c = 1; } }")
	if f.Decls[0].Decls[0].Fields[0].Oneof != 0 || f.Decls[0].Fields[1].Oneof != 1 {
		t.Errorf("%+v", f)
	}
}

func TestP5_2Ranges(t *testing.T) {
	f := treeOf(t, "message A { reserved 5; reserved 1 to 2; reserved 7 to 7, 9 to 3,\n 0,0x10 to 18446744073709551615, 1; }")
	want := []parse.Range{{5, 5, at(1, 22)}, {1, 2, at(1, 34)}, {7, 7, at(1, 51)}, {9, 3, at(1, 59)}, {0, 0, at(2, 2)}, {16, math.MaxUint64, at(2, 4)}, {1, 1, at(2, 34)}}
	if l := f.Decls[0].Reserved; len(l) != len(want) {
		t.Fatalf("%+v", l)
	}
	for i, r := range f.Decls[0].Reserved {
		if r != want[i] {
			t.Errorf("range %d: %+v, want %+v", i, r, want[i])
		}
	}
}

// TestP5_2AsTheyStand sees that names and numbers are not asked for anything.
func TestP5_2AsTheyStand(t *testing.T) {
	lookAtTree(t, "message A { A x = 0; A x = 0; A x = 18446744073709551615; } message A {} enum A { A = 0xffffffffffffffff; A = 007; }", parse.File{Decls: []parse.Decl{
		{Name: "A", At: at(1, 9), Fields: []parse.Field{
			{Name: "x", Type: "A", Number: 0, TypeAt: at(1, 13), At: at(1, 15), NumberAt: at(1, 19)},
			{Name: "x", Type: "A", Number: 0, TypeAt: at(1, 22), At: at(1, 24), NumberAt: at(1, 28)},
			{Name: "x", Type: "A", Number: math.MaxUint64, TypeAt: at(1, 31), At: at(1, 33), NumberAt: at(1, 37)},
		}},
		{Name: "A", At: at(1, 69)},
		{Enum: true, Name: "A", At: at(1, 79), Symbols: []parse.Symbol{
			{Name: "A", Number: math.MaxUint64, At: at(1, 83), NumberAt: at(1, 87)},
			{Name: "A", Number: 7, At: at(1, 107), NumberAt: at(1, 111)},
		}},
	}})
}

func TestP5_2Imports(t *testing.T) {
	lookAtTree(t, "import \"a\\n\\x00\\\"\\\\\"; import \"\";\nimport /* x */ \"\\xff\xfe é\" ;import\"import\";", parse.File{Imports: []parse.Import{
		{Name: "a\n\x00\"\\", At: at(1, 8)}, {Name: "", At: at(1, 30)}, {Name: "\xff\xfe é", At: at(2, 16)}, {Name: "import", At: at(2, 34)},
	}})
}

// TestP5_2Places has a file over many lines, with comments between.
func TestP5_2Places(t *testing.T) {
	lookAtTree(t, "// head\nmessage\n  A /* { */\n{\n\tenum E\n\t{ A\n=\n0 ; }\n map <\n  K\n ,\n   T . U >\n m = // 5\n    6;\n}", parse.File{Decls: []parse.Decl{{Name: "A", At: at(3, 3),
		Fields: []parse.Field{{Name: "m", Type: "T.U", Key: "K", Number: 6, Label: api.Map, MarkAt: at(10, 3), TypeAt: at(12, 4), At: at(13, 2), NumberAt: at(14, 5)}},
		Decls:  []parse.Decl{{Enum: true, Name: "E", At: at(5, 7), Symbols: []parse.Symbol{{Name: "A", At: at(6, 4), NumberAt: at(8, 1)}}}},
	}}})
}
