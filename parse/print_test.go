package parse_test

import (
	"math"
	"strings"
	"testing"

	"cartouche/api"
	"cartouche/parse"
)

func lookAtPrint(t *testing.T, f parse.File, lines ...string) {
	t.Helper()
	want := ""
	for _, l := range lines {
		want += l + "\n"
	}
	if got := parse.Print(f); got != want {
		t.Errorf("Print(%+v):\n%s, want\n%s", f, got, want)
	}
}

func TestP5_3Forms(t *testing.T) {
	lookAtPrint(t, parse.File{})
	lookAtPrint(t, treeOf(t, "enum E {} message M {}"), "enum E {", "}", "message M {", "}")
	lookAtPrint(t, treeOf(t, `enum E { B = 0x10; A = 0; } import "b"; message M { } import "a";`), `import "b";`, `import "a";`, "enum E {", "  B = 16;", "  A = 0;", "}", "message M {", "}")
	lookAtPrint(t, treeOf(t, "message M { reserved 5, 1 to 3, 7 to 7, 9 to 8; reserved 0; }"),
		"message M {", "  reserved 5;", "  reserved 1 to 3;", "  reserved 7;", "  reserved 9 to 8;", "  reserved 0;", "}")
	lookAtPrint(t, treeOf(t, "message M { a.b x=1; optional a x=2; repeated a . c x=3; map<k,a.b> x=4; }"),
		"message M {", "  a.b x = 1;", "  optional a x = 2;", "  repeated a.c x = 3;", "  map<k, a.b> x = 4;", "}")
	lookAtPrint(t, treeOf(t, "message M { a x=1[packed=true]; optional a x=2 [ packed = false ]; repeated a x=3[packed=false];repeated a x = 18446744073709551615 [packed = true]; }"),
		"message M {", "  a x = 1 [packed = true];", "  optional a x = 2 [packed = false];", "  repeated a x = 3 [packed = false];", "  repeated a x = 18446744073709551615 [packed = true];", "}")
	lookAtPrint(t, treeOf(t, "message M { oneof o { a x=1; optional y = 2; } oneof p { map z = 3; } }"),
		"message M {", "  oneof o {", "    a x = 1;", "    optional y = 2;", "  }", "  oneof p {", "    map z = 3;", "  }", "}")
}

func TestP5_3Imports(t *testing.T) {
	lookAtPrint(t, treeOf(t, "import \"a\\n\\x00\\\"\\\\\"; import \"\"; import \"\xff é~ \";"), `import "a\n\x00\"\\";`, `import "";`, `import "\xff \xc3\xa9~ ";`)
}

// TestP5_3Order has a message in which all kinds of members stand among one another: ranges, fields, declarations, each in its order.
func TestP5_3Order(t *testing.T) {
	lookAtPrint(t, treeOf(t, "message M { message B { a z = 3; enum C {} reserved 4; } a x = 1; enum A { Z = 0; } reserved 7; oneof o { a y = 2; } message D {} a w = 5; reserved 2; }"),
		"message M {", "  reserved 7;", "  reserved 2;", "  a x = 1;", "  oneof o {", "    a y = 2;", "  }", "  a w = 5;",
		"  message B {", "    reserved 4;", "    a z = 3;", "    enum C {", "    }", "  }", "  enum A {", "    Z = 0;", "  }", "  message D {", "  }", "}")
}

func TestP5_3Deep(t *testing.T) {
	var want []string
	text := "reserved 1; oneof o { a x = 2; } enum E { Z = 0; }"
	indent := func(depth int) string { return strings.Repeat("  ", depth) }
	for depth := range api.MaxNest {
		want = append(want, indent(depth)+"message A {")
	}
	d := indent(api.MaxNest)
	want = append(want, d+"reserved 1;", d+"oneof o {", d+"  a x = 2;", d+"}", d+"enum E {", d+"  Z = 0;", d+"}")
	for depth := range api.MaxNest {
		want = append(want, indent(api.MaxNest-1-depth)+"}")
	}
	lookAtPrint(t, treeOf(t, nested(api.MaxNest, text)), want...)
}

// TestP5_3MembersApart has trees that no text tells as they are, but of which the chapter says how a oneof is printed: whole, where its first member stands.
func TestP5_3MembersApart(t *testing.T) {
	field := func(name string, label, oneof int) parse.Field {
		return parse.Field{Name: name, Type: "t", Number: 1, Label: label, Oneof: oneof}
	}
	f := parse.File{Decls: []parse.Decl{{Name: "M", Oneofs: []parse.Oneof{{Name: "o"}, {Name: "p"}}, Fields: []parse.Field{
		field("a", api.Plain, 0), field("b", api.Member, 0), field("c", api.Plain, 0), field("d", api.Member, 1), field("e", api.Member, 0), field("f", api.Optional, 0), field("g", api.Member, 1), field("h", api.Member, 0),
	}}}}
	lookAtPrint(t, f, "message M {", "  t a = 1;", "  oneof o {", "    t b = 1;", "    t e = 1;", "    t h = 1;", "  }", "  t c = 1;",
		"  oneof p {", "    t d = 1;", "    t g = 1;", "  }", "  optional t f = 1;", "}")
}

// TestP5_3Bare sees that no place is left anywhere, and all else is.
func TestP5_3Bare(t *testing.T) {
	text := `import "i"; message M { reserved 1 to 2, 9; oneof o { a.b x = 3; } oneof p { c y = 4; } optional a z = 5; repeated a w = 6 [packed = true]; map<k, v> m = 7; enum E { S = 8; } message N { message O { a q = 1 [packed = false]; } } } enum F { Z = 0; }`
	want := parse.File{Imports: []parse.Import{{Name: "i"}}, Decls: []parse.Decl{
		{Name: "M", Oneofs: []parse.Oneof{{Name: "o"}, {Name: "p"}}, Reserved: []parse.Range{{Low: 1, High: 2}, {Low: 9, High: 9}},
			Fields: []parse.Field{
				{Name: "x", Type: "a.b", Number: 3, Label: api.Member},
				{Name: "y", Type: "c", Number: 4, Label: api.Member, Oneof: 1},
				{Name: "z", Type: "a", Number: 5, Label: api.Optional},
				{Name: "w", Type: "a", Number: 6, Label: api.Repeated, Packed: 1},
				{Name: "m", Type: "v", Key: "k", Number: 7, Label: api.Map},
			},
			Decls: []parse.Decl{
				{Enum: true, Name: "E", Symbols: []parse.Symbol{{Name: "S", Number: 8}}},
				{Name: "N", Decls: []parse.Decl{{Name: "O", Fields: []parse.Field{{Name: "q", Type: "a", Number: 1, Packed: 2}}}}},
			}},
		{Enum: true, Name: "F", Symbols: []parse.Symbol{{Name: "Z"}}},
	}}
	if got := parse.Bare(treeOf(t, text)); !sameFile(got, want) {
		t.Errorf("Bare: %+v, want %+v", got, want)
	}
	if got := parse.Bare(want); !sameFile(got, want) {
		t.Errorf("Bare of a bare one: %+v, want %+v", got, want)
	}
	if got := parse.Bare(parse.File{}); !sameFile(got, parse.File{}) {
		t.Errorf("Bare of nothing: %+v", got)
	}
}

// TestP5_3BareAny has a tree that no text tells: all but its places stays as it is.
func TestP5_3BareAny(t *testing.T) {
	p := at(-1, math.MaxInt)
	f := parse.File{Decls: []parse.Decl{{Enum: true, Name: "\xff", At: p,
		Fields:   []parse.Field{{Name: " ", Type: ";", Key: "{", Number: math.MaxUint64, Label: -7, Packed: 9, Oneof: -1, At: p, NumberAt: p, TypeAt: p, MarkAt: p}},
		Oneofs:   []parse.Oneof{{Name: "}", At: p}},
		Decls:    []parse.Decl{{At: p}},
		Reserved: []parse.Range{{Low: 9, High: 1, At: p}},
		Symbols:  []parse.Symbol{{Name: "", Number: math.MaxUint64, At: p, NumberAt: p}},
	}}, Imports: []parse.Import{{Name: "", At: p}}}
	want := parse.File{Decls: []parse.Decl{{Enum: true, Name: "\xff",
		Fields:   []parse.Field{{Name: " ", Type: ";", Key: "{", Number: math.MaxUint64, Label: -7, Packed: 9, Oneof: -1}},
		Oneofs:   []parse.Oneof{{Name: "}"}},
		Decls:    []parse.Decl{{}},
		Reserved: []parse.Range{{Low: 9, High: 1}},
		Symbols:  []parse.Symbol{{Number: math.MaxUint64}},
	}}, Imports: []parse.Import{{}}}
	if got := parse.Bare(f); !sameFile(got, want) {
		t.Errorf("Bare: %+v, want %+v", got, want)
	}
}
