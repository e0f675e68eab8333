package parse_test

import (
	"strings"
	"testing"

	"cartouche/api"
	"cartouche/parse"
)

func TestP5_1Examples(t *testing.T) {
	lookAtFault(t, "message A { int32 x = 1 }", api.ErrSyntax, 1, 25)
	lookAtFault(t, "message A {", api.ErrSyntax, 1, 12)
	lookAtFault(t, "foo", api.ErrSyntax, 1, 1)
	lookAtFault(t, "message A { oneof o { } }", api.ErrSyntax, 1, 23)
}

func TestP5_1Empty(t *testing.T) {
	for _, text := range []string{"", " ", "\n\t\r ", "// a", "/* message */ // }\n"} {
		lookAtTree(t, text, parse.File{})
	}
	lookAtTree(t, "message A{}", parse.File{Decls: []parse.Decl{{Name: "A", At: at(1, 9)}}})
	lookAtTree(t, "enum E{}", parse.File{Decls: []parse.Decl{{Enum: true, Name: "E", At: at(1, 6)}}})
}

// TestP5_1LexFaults sees that a fault of a word is told ahead of one of a form, though that stands ahead of it in the text.
func TestP5_1LexFaults(t *testing.T) {
	lookAtFault(t, "#", api.ErrSyntax, 1, 1)
	lookAtFault(t, "foo\n  #", api.ErrSyntax, 2, 3)
	lookAtFault(t, "foo /* ", api.ErrSyntax, 1, 5)
	lookAtFault(t, "} 1x", api.ErrSyntax, 1, 3)
	lookAtFault(t, "} \"a", api.ErrSyntax, 1, 3)
	lookAtFault(t, "import \"\\q\";", api.ErrSyntax, 1, 8)
	lookAtFault(t, "} 18446744073709551616", api.ErrRange, 1, 3)
	lookAtFault(t, "message A { int32 x = 18446744073709551616; }", api.ErrRange, 1, 23)
	lookAtFault(t, strings.Repeat("message A {", 9)+"#", api.ErrSyntax, 1, 100)
}

func TestP5_1TextSize(t *testing.T) {
	const ahead, behind = "message A {", "}"
	full := ahead + strings.Repeat(" ", api.MaxText-len(ahead)-len(behind)) + behind
	lookAtTree(t, full, parse.File{Decls: []parse.Decl{{Name: "A", At: at(1, 9)}}})
	lookAtFault(t, full+" ", api.ErrTooBig, 0, 0)
	lookAtFault(t, "#"+full, api.ErrTooBig, 0, 0)
}

func nested(count int, inner string) string {
	return strings.Repeat("message A {", count) + inner + strings.Repeat("}", count)
}

func depthOf(d parse.Decl) int {
	if len(d.Decls) == 0 {
		return 1
	}
	return 1 + depthOf(d.Decls[0])
}

func TestP5_1Nest(t *testing.T) {
	for count := 1; count <= api.MaxNest; count++ {
		f := treeOf(t, nested(count, ""))
		if len(f.Decls) != 1 || depthOf(f.Decls[0]) != count {
			t.Errorf("%d messages in one another: %+v", count, f)
		}
	}
	// Enums and oneofs are no messages: they do not count.
	inner := "enum E { A = 0; } oneof o { message m = 1; } optional message n = 2; reserved 3;"
	f := treeOf(t, nested(api.MaxNest, inner))
	if depthOf(f.Decls[0]) != api.MaxNest+1 {
		t.Errorf("an enum within %d messages: %+v", api.MaxNest, f)
	}
	treeOf(t, nested(api.MaxNest-1, "message B {} message C {}"))
	col := api.MaxNest*len("message A {") + 1
	lookAtFault(t, nested(api.MaxNest+1, ""), api.ErrLimit, 1, col)
	lookAtFault(t, nested(api.MaxNest+3, ""), api.ErrLimit, 1, col)
	lookAtFault(t, nested(api.MaxNest, inner+"\n message B {}"), api.ErrLimit, 2, 2)
	// Messages one behind the other are not within one another.
	treeOf(t, strings.Repeat(nested(api.MaxNest, ""), 3))
	treeOf(t, nested(1, strings.Repeat(nested(api.MaxNest-1, ""), 3)))
}

// TestP5_1NestFirst holds the limit against other faults: the first from the left is told.
func TestP5_1NestFirst(t *testing.T) {
	col := api.MaxNest*len("message A {") + 1
	for _, inner := range []string{"message", "message = 1;", "message 5 {}", "message A {{", "message message", "message A {} }} foo"} {
		lookAtFault(t, nested(api.MaxNest, inner), api.ErrLimit, 1, col)
	}
	lookAtFault(t, nested(api.MaxNest, "; message B {}"), api.ErrSyntax, 1, col)
	lookAtFault(t, nested(api.MaxNest, "a b message B {}"), api.ErrSyntax, 1, col+4)
	lookAtFault(t, strings.Repeat("message A {", api.MaxNest), api.ErrSyntax, 1, col)
}

// TestP5_1Order sees that all stands in the text's order.
func TestP5_1Order(t *testing.T) {
	f := treeOf(t, `message B { int32 z = 9; message N {} int32 y = 3; reserved 9; enum O { Y = 7; X = 0; } reserved 4, 2; oneof p { a q = 1; } oneof o { a r = 0; } }
enum A {} import "z"; message C {} import "a"; import "z";`)
	names := func(l []string, want string) {
		t.Helper()
		if got := strings.Join(l, " "); got != want {
			t.Errorf("order %s, want %s", got, want)
		}
	}
	var imports, decls []string
	for _, i := range f.Imports {
		imports = append(imports, i.Name)
	}
	for _, d := range f.Decls {
		decls = append(decls, d.Name)
	}
	names(imports, "z a z")
	names(decls, "B A C")
	var fields, inner, oneofs, symbols []string
	for _, x := range f.Decls[0].Fields {
		fields = append(fields, x.Name)
	}
	for _, d := range f.Decls[0].Decls {
		inner = append(inner, d.Name)
		for _, s := range d.Symbols {
			symbols = append(symbols, s.Name)
		}
	}
	for _, o := range f.Decls[0].Oneofs {
		oneofs = append(oneofs, o.Name)
	}
	names(fields, "z y q r")
	names(inner, "N O")
	names(oneofs, "p o")
	names(symbols, "Y X")
	if l := f.Decls[0].Reserved; len(l) != 3 || l[0].Low != 9 || l[1].Low != 4 || l[2].Low != 2 {
		t.Errorf("ranges %v", l)
	}
}

// TestP5_1Wrong has of each form words with which it does not go on.
func TestP5_1Wrong(t *testing.T) {
	for _, x := range []struct {
		text string
		col  int
	}{
		{";", 1}, {"}", 1}, {"optional int32 x = 1;", 1}, {"int32 x = 1;", 1}, {"oneof o { int32 x = 1; }", 1}, {"\"a\"", 1}, {"5", 1},
		{"import", 7}, {"import a;", 8}, {"import 5;", 8}, {"import \"a\"", 11}, {"import \"a\" \"b\";", 12}, {"import \"a\",", 11},
		{"message", 8}, {"message 1 {}", 9}, {"message A;", 10}, {"message A.B {}", 10}, {"message A {} }", 14}, {"message A {};", 13}, {"message \"A\" {}", 9},
		{"message A { ; }", 13}, {"message A { 5 x = 1; }", 13}, {"message A { \"b\" x = 1; }", 13}, {"message A { .B x = 1; }", 13},
		{"message A { B. x = 1; }", 18}, {"message A { B.. x = 1; }", 15}, {"message A { B.C. = 1; }", 18}, {"message A { B.5 x = 1; }", 15},
		{"message A { B = 1; }", 15}, {"message A { B x; }", 16}, {"message A { B x = ; }", 19}, {"message A { B x = -1; }", 19}, {"message A { B x = y; }", 19},
		{"message A { B x : 1; }", 17}, {"message A { B x = 1, }", 20}, {"message A { B x = 1 2; }", 21}, {"message A { B x y = 1; }", 17},
		{"message A { B x = 1 []; }", 22}, {"message A { B x = 1 [unpacked = true]; }", 22}, {"message A { B x = 1 [packed]; }", 28},
		{"message A { B x = 1 [packed = 1]; }", 31}, {"message A { B x = 1 [packed = \"true\"]; }", 31}, {"message A { B x = 1 [packed = True]; }", 31},
		{"message A { B x = 1 [packed = true; }", 35}, {"message A { B x = 1 [packed = true, packed = true]; }", 35}, {"message A { B x = 1 [packed = true] [packed = true]; }", 37},
		{"message A { B x = 1 (packed = true); }", 21}, {"message A { B x [packed = true] = 1; }", 17},
		{"message A { optional x = 1; }", 24}, {"message A { optional repeated B x = 1; }", 33}, {"message A { optional = 1; }", 22}, {"message A { optional.B x = 1; }", 21},
		{"message A { repeated map<string, B> x = 1; }", 25}, {"message A { repeated }", 22},
		{"message A { map int32 x = 1; }", 17}, {"message A { map.B x = 1; }", 16}, {"message A { map<> m = 1; }", 17}, {"message A { map<a.b, M> m = 1; }", 18},
		{"message A { map<5, M> m = 1; }", 17}, {"message A { map<a> m = 1; }", 18}, {"message A { map<a,> m = 1; }", 19}, {"message A { map<a, M, N> m = 1; }", 21},
		{"message A { map<a, M> = 1; }", 23}, {"message A { map<a, M> m = 1 [packed = true]; }", 29}, {"message A { map<a, M> m; }", 24}, {"message A { map<a, map<b, c>> m; }", 23},
		{"message A { message = 1; }", 21}, {"message A { message B = 1; }", 23}, {"message A { enum B = 1; }", 20}, {"message A { oneof B = 1; }", 21}, {"message A { reserved B = 1; }", 22},
		{"message A { import \"a\"; }", 20}, {"message A { import = 1; }", 20},
		{"message A { oneof { B x = 1; } }", 19}, {"message A { oneof o { B x = 1; }; }", 33}, {"message A { oneof o { ; } }", 23}, {"message A { oneof o { optional int32 x = 1; } }", 38},
		{"message A { oneof o { B x = 1 [packed = true]; } }", 31}, {"message A { oneof o { map<a, b> x = 1; } }", 26}, {"message A { oneof o { message N {} } }", 33}, {"message A { oneof o { reserved 5; } }", 32},
		{"message A { oneof o { oneof p { B x = 1; } } }", 31}, {"message A { oneof o { B x = 1; ", 32}, {"message A { oneof o { B x = 1; } ", 34},
		{"message A { reserved ; }", 22}, {"message A { reserved x; }", 22}, {"message A { reserved 1 to ; }", 27}, {"message A { reserved 1 upto 2; }", 24}, {"message A { reserved 1 2; }", 24},
		{"message A { reserved 1,; }", 24}, {"message A { reserved 1 to 2 to 3; }", 29}, {"message A { reserved 1 to max; }", 27}, {"message A { reserved to 2; }", 22}, {"message A { reserved -1; }", 22},
		{"message A { reserved 1 \"to\" 2; }", 24}, {"message A { reserved 1, 2 }", 27},
		{"enum", 5}, {"enum 5 {}", 6}, {"enum E;", 7}, {"enum E { A }", 12}, {"enum E { A = 1 }", 16}, {"enum E { A = -1; }", 14}, {"enum E { A = B; }", 14}, {"enum E { A.B = 1; }", 11},
		{"enum E { A = 1 [packed = true]; }", 16}, {"enum E { 5 = 1; }", 10}, {"enum E { ; }", 10}, {"enum E { message M {} }", 18}, {"enum E { A = 0;", 16}, {"enum E { reserved 5; }", 19},
	} {
		lookAtFault(t, x.text, api.ErrSyntax, 1, x.col)
	}
	lookAtFault(t, "message A {\n  int32 x = 1;\n  int32 y = \n}\nfoo", api.ErrSyntax, 4, 1)
}
