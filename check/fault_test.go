package check_test

import (
	"fmt"
	"strings"
	"testing"

	"cartouche/api"
)

func TestP6_1Examples(t *testing.T) {
	lookAtMark(t, api.ErrDup, "message M { int32 x = 1; string @x = 2; }")
	lookAtFault(t, files("message M { int32 x = 1; string x = 2; }"), api.Fault{Code: api.ErrDup, File: 1, Line: 1, Col: 33})
	lookAtFault(t, files("message M { int32 x = 0; }"), api.Fault{Code: api.ErrRange, File: 1, Line: 1, Col: 23})
	lookAtFault(t, files("message M { reserved 5 to 9; Foo f = 5; }"), api.Fault{Code: api.ErrNumber, File: 1, Line: 1, Col: 38})
	lookAtFault(t, files("message M { Foo f = 1; }"), api.Fault{Code: api.ErrName, File: 1, Line: 1, Col: 13})
	lookAtFault(t, files("message M { optional M m = 1; }"), api.Fault{Code: api.ErrOption, File: 1, Line: 1, Col: 13})
	lookAtFault(t, files("message M { map<double, M> m = 1; }"), api.Fault{Code: api.ErrOption, File: 1, Line: 1, Col: 17})
	lookAtFault(t, files("message M { string s = 1 [packed = true]; }"), api.Fault{Code: api.ErrOption, File: 1, Line: 1, Col: 27})
	lookAtFault(t, files("enum E { A = 1; }"), api.Fault{Code: api.ErrSymbol, File: 1, Line: 1, Col: 14})
	lookAtFault(t, files("enum E { }"), api.Fault{Code: api.ErrSymbol, File: 1, Line: 1, Col: 6})
	lookAtFault(t, files("message A {} enum A { Z = 0; }"), api.Fault{Code: api.ErrDup, File: 1, Line: 1, Col: 19})
	lookAtFault(t, files(`import "b";`, `import "a";`), api.Fault{Code: api.ErrCycle, File: 1, Line: 1, Col: 8})
	lookAtFault(t, files(`import "c";`), api.Fault{Code: api.ErrImport, File: 1, Line: 1, Col: 8})
}

// manyFiles are so many sources without a text.
func manyFiles(count int) []api.Source {
	var out []api.Source
	for i := range count {
		out = append(out, api.Source{Name: fmt.Sprint("file", i)})
	}
	return out
}

func TestP6_1CountOfFiles(t *testing.T) {
	lookAtTable(t, nil)
	lookAtTable(t, []api.Source{})
	lookAtTable(t, manyFiles(1))
	lookAtTable(t, manyFiles(api.MaxFiles))
	for _, count := range []int{api.MaxFiles + 1, api.MaxFiles + 2, 1000} {
		lookAtFault(t, manyFiles(count), api.Fault{Code: api.ErrLimit})
	}
}

func TestP6_1SizeOfTexts(t *testing.T) {
	blanks := func(n int) string { return strings.Repeat(" ", n) }
	lookAtTaken(t, blanks(api.MaxText))
	lookAtTaken(t, blanks(api.MaxText-1), "\n")
	lookAtTaken(t, "", blanks(api.MaxText/2), "", blanks(api.MaxText/2))
	for _, l := range [][]string{{blanks(api.MaxText + 1)}, {blanks(api.MaxText), "\n"}, {"", blanks(api.MaxText/2 + 1), "", blanks(api.MaxText / 2)}} {
		lookAtFault(t, files(l...), api.Fault{Code: api.ErrTooBig})
	}
	long := strings.Repeat("n", 2*api.MaxText) // a name is not of the texts
	lookAtTable(t, []api.Source{{Name: long, Text: blanks(api.MaxText)}})
}

func TestP6_1NamesOfFiles(t *testing.T) {
	named := func(l ...string) []api.Source {
		var out []api.Source
		for _, s := range l {
			out = append(out, api.Source{Name: s})
		}
		return out
	}
	lookAtTable(t, named("", "a", "A", "a ", "\xff", "\xfe"))
	for _, x := range []struct {
		names []string
		file  int
	}{{[]string{"a", "a"}, 2}, {[]string{"a", "b", "a"}, 3}, {[]string{"a", "b", "b", "a"}, 3}, {[]string{"", "a", ""}, 3}, {[]string{"a", "a", "a"}, 2}} {
		lookAtFault(t, named(x.names...), api.Fault{Code: api.ErrDup, File: x.file})
	}
}

func TestP6_1Parse(t *testing.T) {
	lookAtMark(t, api.ErrSyntax, "message A {@")
	lookAtMark(t, api.ErrSyntax, "", "message A { }\n  @foo")
	lookAtMark(t, api.ErrSyntax, "", "", "message A { x = @$ }")
	lookAtMark(t, api.ErrRange, "", "enum E { A = @18446744073709551616; }")
	deep := strings.Repeat("message A {", api.MaxNest)
	lookAtMark(t, api.ErrLimit, "", deep+"@message A { }"+strings.Repeat("}", api.MaxNest))
	lookAtMark(t, api.ErrSyntax, "message A {@", "%")
}

func TestP6_1Imports(t *testing.T) {
	lookAtMark(t, api.ErrImport, `import @"c";`, "")
	lookAtMark(t, api.ErrImport, `import "b";`, `import @"A";`)
	lookAtMark(t, api.ErrImport, `import "b"; import @"";`, "")
	lookAtMark(t, api.ErrImport, `import @"x"; import "x";`)
	lookAtMark(t, api.ErrDup, `import "b"; import @"b";`, "")
	lookAtMark(t, api.ErrDup, `import "b"; import "c"; import @"b"; import "c";`, "", "")
	lookAtMark(t, api.ErrDup, `import "b";`, `import "\x63"; message A { } import @"c";`, "")
	lookAtMark(t, api.ErrDup, `import "a"; import @"a";`)
	lookAtTaken(t, `import "b"; import "c";`, `import "c";`, "")
	lookAtTaken(t, `import "c";`, `import "a"; import "c";`, "")
	lookAtTaken(t, `message A { B b = 1; } import "b";`, `message B { }`)
	lookAtTable(t, []api.Source{{Name: "x\xff", Text: `import "";`}, {Name: "", Text: ""}})
	lookAtFault(t, []api.Source{{Name: "x", Text: `import "";`}, {Name: "", Text: `import "x";`}}, api.Fault{Code: api.ErrCycle, File: 1, Line: 1, Col: 8})
}

func TestP6_1Rings(t *testing.T) {
	lookAtMark(t, api.ErrCycle, `import @"a";`)
	lookAtMark(t, api.ErrCycle, "", `import @"b";`)
	lookAtMark(t, api.ErrCycle, `import "b"; import @"a";`, "")
	lookAtMark(t, api.ErrCycle, `import @"b";`, `import "a";`)
	lookAtMark(t, api.ErrCycle, `import @"b";`, `import "c";`, `import "a";`)
	lookAtMark(t, api.ErrCycle, `import @"c";`, `import "a";`, `import "b";`)
	lookAtMark(t, api.ErrCycle, `import "b"; import @"c";`, "", `import "b"; import "a";`)
	lookAtMark(t, api.ErrCycle, `import "d"; import @"b"; import "c";`, `import "d"; import "a";`, `import "a";`, "")
	lookAtTaken(t, `import "b"; import "c";`, `import "d";`, `import "d";`, "") // two ways to one file are no ring
}

// TestP6_1IntoARing has imports that lead into a ring without being of it.
func TestP6_1IntoARing(t *testing.T) {
	lookAtMark(t, api.ErrCycle, `import "b";`, `import @"b";`)
	lookAtMark(t, api.ErrCycle, `import "b";`, `import @"c";`, `import "b";`)
	lookAtMark(t, api.ErrCycle, `import "c"; import "b";`, `import "d";`, `import @"d";`, `import "c";`)
	lookAtMark(t, api.ErrCycle, `import "b";`, `import "d"; import @"c";`, `import "d"; import "b";`, "")
	lookAtMark(t, api.ErrCycle, `import "b"; import "c";`, `import "c";`, `import @"d";`, `import "e";`, `import "c";`)
}

// TestP6_1LongRing has all files that a bundle may have in one ring, whichever way it goes.
func TestP6_1LongRing(t *testing.T) {
	for _, step := range []int{1, 3, api.MaxFiles - 1} {
		l := manyFiles(api.MaxFiles)
		for i := range l {
			l[i].Text = fmt.Sprintf("import \"file%d\";", (i+step)%len(l))
		}
		lookAtFault(t, l, api.Fault{Code: api.ErrCycle, File: 1, Line: 1, Col: 8})
		l[0].Text = ""
		lookAtTable(t, l)
	}
}

// TestP6_1EachImportsAll has all files import all that stand behind them: no ring, but many ways.
func TestP6_1EachImportsAll(t *testing.T) {
	l := manyFiles(api.MaxFiles)
	for i := range l {
		for j := i + 1; j < len(l); j++ {
			l[i].Text += fmt.Sprintf("import \"file%d\"; ", j)
		}
	}
	lookAtTable(t, l)
	last := len(l) - 1
	l[last].Text = fmt.Sprintf("import \"file%d\";", last-1)
	lookAtFault(t, l, api.Fault{Code: api.ErrCycle, File: last, Line: 1, Col: 8})
}

func TestP6_1CountOfTypes(t *testing.T) {
	lookAtTaken(t, lines(api.MaxTypes, "message M# {}"))
	lookAtTaken(t, lines(64, "message M# { enum E { A = 0; } }"))
	lookAtTaken(t, lines(api.MaxTypes-1, "message M# {}"), "message Last { }")
	lookAtMark(t, api.ErrLimit, lines(api.MaxTypes, "message M# {}")+"message @Last { } message More { }")
	lookAtMark(t, api.ErrLimit, lines(64, "message M# { enum E { A = 0; } }")+"enum @Last { }")
	lookAtMark(t, api.ErrLimit, lines(63, "message M# { enum E { A = 0; } }")+"message A { message B { message @C { } } }")
	lookAtMark(t, api.ErrLimit, lines(api.MaxTypes, "message M# {}"), "", "message @M0 { }") // the limit goes ahead of the name
	lookAtMark(t, api.ErrDup, lines(api.MaxTypes-1, "message M# {}")+"enum @M5 { } message M127 { }")
	lookAtMark(t, api.ErrLimit, lines(api.MaxTypes, "message M# {}")+"message @X { "+lines(2000, "enum e#{}")+"}")
}

func TestP6_1FullNames(t *testing.T) {
	lookAtMark(t, api.ErrDup, "message A { } message @A { }")
	lookAtMark(t, api.ErrDup, "enum A { Z = 0; } message B { } message @A { }")
	lookAtMark(t, api.ErrDup, "message A { }", "message B { } enum @A { Z = 0; }")
	lookAtMark(t, api.ErrDup, "message A { message B { } enum @B { Z = 0; } }")
	lookAtMark(t, api.ErrDup, "message A { message B { message C { } } message X { message C { } } message @B { message C { } } }")
	lookAtMark(t, api.ErrDup, "message A { message B { } message @B { } } message A { }")
	lookAtMark(t, api.ErrDup, "message A { message B { } }", "message @A { message B { } }")
	lookAtMark(t, api.ErrDup, `import "b"; message A { }`, "message @A { }")
	lookAtTaken(t, "message A { message A { enum A { A = 0; } } message B { } } message B { message A { } }")
	lookAtTaken(t, "message a { } message A { } enum AA { Z = 0; }")
}

func TestP6_1Ranges(t *testing.T) {
	top := fmt.Sprint(api.MaxNumber)
	for _, s := range []string{"1", "1 to 1", top, top + " to " + top, "1 to " + top, "0x1 to 0x1fffffff", "2 to 4, 1, 5, 9 to 9, 6 to 8", "10 to 20, 21 to 30, 1 to 9"} {
		lookAtTaken(t, "message M { reserved "+s+"; }")
	}
	for _, s := range []string{"0", "0 to 0", "0 to 5", "536870912", "1 to 536870912", "536870911 to 536870912", "5 to 4", top + " to 1", "18446744073709551615", "1 to 18446744073709551615", "18446744073709551615 to 1"} {
		lookAtMembers(t, api.ErrRange, "reserved @"+s+";")
		lookAtMembers(t, api.ErrRange, "reserved 1000, @"+s+", 1000;")
	}
	for _, s := range []string{"5, @5", "1 to 3, @3 to 4", "5, @1 to 5", "3 to 4, @1 to 3", "1 to 9, @4 to 5", "4 to 5, @1 to 9", "1, 3, 5, @2 to 4", "1; reserved 2; reserved 3, @2", top + ", @1 to " + top, "2, 3, @3, 2"} {
		lookAtMembers(t, api.ErrNumber, "reserved "+s+";")
	}
}

// ranges tells so many ranges of one number each, with a comma behind each.
func ranges(count int) string { return strings.ReplaceAll(lines(count, "1#000,"), "\n", " ") }

func TestP6_1CountOfRanges(t *testing.T) {
	lookAtTaken(t, "message M { reserved "+ranges(api.MaxFields-1)+" 7; }")
	lookAtMembers(t, api.ErrLimit, "reserved "+ranges(api.MaxFields)+" @7, 7, 0;")
	lookAtMembers(t, api.ErrLimit, "reserved "+ranges(api.MaxFields-1)+" 7; reserved @0;") // the limit goes ahead of what is wrong with it
	lookAtMembers(t, api.ErrLimit, "reserved "+ranges(api.MaxFields)+" @10000;")
	lookAtMembers(t, api.ErrRange, "reserved @0, "+ranges(api.MaxFields)+" 7;")
	lookAtMembers(t, api.ErrNumber, "reserved "+ranges(api.MaxFields-1)+" @10000; reserved 7;")
}

func TestP6_1Oneofs(t *testing.T) {
	lookAtMembers(t, api.ErrDup, "oneof o { int32 x = 1; } oneof @o { int32 y = 2; }")
	lookAtMembers(t, api.ErrDup, "oneof o { int32 x = 1; } oneof p { int32 y = 2; } oneof @p { int32 x = 1; } oneof o { int32 z = 0; }")
	lookAtMembers(t, api.ErrDup, "oneof o { int32 x = 1; } int32 @o = 2;")
	lookAtMembers(t, api.ErrDup, "int32 @o = 2; oneof o { int32 x = 1; }") // a oneof that stands behind it has the name too
	lookAtMembers(t, api.ErrDup, "oneof o { int32 @o = 1; }")
	lookAtMembers(t, api.ErrDup, "oneof o { int32 x = 1; } oneof p { int32 @x = 2; }")
	lookAtMembers(t, api.ErrDup, "oneof o { int32 x = 1; int32 @x = 2; }")
	lookAtMembers(t, api.ErrDup, "int32 x = 1; oneof o { int32 y = 2; int32 @x = 3; }")
	lookAtTaken(t, "message M { oneof M { int32 N = 1; } oneof int32 { M O = 2; } message N { } enum O { N = 0; } }")
	lookAtTaken(t, "message M { message N { oneof o { int32 x = 1; } } oneof o { int32 x = 1; } }")
	lookAtTaken(t, "message M {"+lines(api.MaxFields, "oneof o# { int32 x# = 1#; }")+"}")
}

// fields tells so many lines, each a field.
func fields(count int) string { return lines(count, "int32 f# = 1#;") }

func TestP6_1CountOfFields(t *testing.T) {
	lookAtTaken(t, "message M {"+fields(api.MaxFields)+"}")
	lookAtTaken(t, "message M {"+fields(api.MaxFields)+"reserved "+ranges(api.MaxFields-1)+" 7; }")
	lookAtMembers(t, api.ErrLimit, fields(api.MaxFields)+"int32 @last = 5;")
	lookAtMembers(t, api.ErrLimit, fields(api.MaxFields)+"optional Foo @f0 = 0 [packed = true]; int32 f0 = 0;") // the limit goes ahead of what is wrong with it
	lookAtMembers(t, api.ErrLimit, fields(api.MaxFields-1)+"oneof o { int32 a = 1; int32 @b = 2; }")
	lookAtMembers(t, api.ErrDup, fields(api.MaxFields-1)+"int32 @f0 = 0; int32 last = 5;")
	lookAtMembers(t, api.ErrLimit, lines(api.MaxFields, "oneof o# { int32 x# = 1#; }")+"oneof p { int32 @y = 5; }")
	lookAtMembers(t, api.ErrLimit, lines(64, "repeated int32 r# = 1#; map<string, M> m# = 2#;")+"bool @last = 5;")
}

func TestP6_1NamesOfFields(t *testing.T) {
	lookAtMembers(t, api.ErrDup, "int32 x = 1; string @x = 2;")
	lookAtMembers(t, api.ErrDup, "int32 x = 1; int32 y = 2; map<string, M> @x = 3; int32 y = 4;")
	lookAtMembers(t, api.ErrDup, "int32 x = 1; optional int32 @x = 1;")
	lookAtMembers(t, api.ErrDup, "int32 x = 1; repeated Foo @x = 0 [packed = true];")
	lookAtTaken(t, "message M { int32 x = 1; int32 X = 2; int32 M = 3; int32 int32 = 4; message x { int32 x = 1; } }")
	lookAtTaken(t, "message M { int32 x = 1; } message N { int32 x = 1; }")
}

func TestP6_1Numbers(t *testing.T) {
	lookAtTaken(t, "message M { int32 x = 1; int32 y = 536870911; int32 z = 0x1ffffffe; int32 w = 000002; }")
	for _, s := range []string{"0", "0x0", "536870912", "4294967297", "18446744073709551615"} {
		lookAtMembers(t, api.ErrRange, "int32 x = @"+s+";")
		lookAtMembers(t, api.ErrRange, "oneof o { Foo x = @"+s+"; }")
		lookAtMembers(t, api.ErrRange, "int32 y = 5; map<bytes, Foo> x = @"+s+"; int32 z = 5;")
	}
	for _, s := range []string{"int32 x = 1; int32 y = @1;", "int32 x = 1; int32 y = 2; int32 z = @0x2;", "int32 x = 7; oneof o { int32 y = 2; Foo z = @7; }", "int32 x = 1; int32 y = 2; Foo z = @2; int32 w = 1;",
		"reserved 5; int32 x = @5;", "int32 x = @5; reserved 5;", "reserved 5 to 9; Foo f = @9;", "reserved 5 to 9; Foo f = @7;", "reserved 1, 5 to 9; Foo f = @5;", "int32 x = 4; int32 y = @8; reserved 20, 10, 8;"} {
		lookAtMembers(t, api.ErrNumber, s)
	}
	lookAtTaken(t, "message M { reserved 5 to 9; int32 x = 4; int32 y = 10; message N { int32 x = 5; } }")
}

func TestP6_1Types(t *testing.T) {
	for _, s := range []string{"@Foo x = 1;", "repeated @Foo x = 1;", "optional @Foo x = 1;", "map<string, @Foo> x = 1;", "oneof o { @Foo x = 1; }", "@m x = 1;", "@Int32 x = 1;", "@int32.x x = 1;", "@M.N x = 1;", "@N x = 1; message Other { message N { } }",
		"@E.Z x = 1;", "@M . M x = 1;", "int32 y = 1; @y x = 2;", "oneof o { int32 y = 1; } @o x = 2;", "optional @Foo x = 1 [packed = true];", "map<bytes, @Foo> x = 1;", "repeated @Foo x = 1 [packed = false];"} {
		lookAtMembers(t, api.ErrName, s)
	}
	lookAtMark(t, api.ErrName, "message A { @B b = 1; }", "message B { }")
	lookAtMark(t, api.ErrName, `import "b"; message A { B b = 1; }`, "message B { @A a = 1; }")
	lookAtMark(t, api.ErrName, `import "b"; message A { @C c = 1; }`, `import "c";`, "message C { }")
	lookAtMark(t, api.ErrName, `import "b"; message A { B b = 1; @C c = 2; }`, `import "c"; message B { C c = 1; }`, "message C { }")
	lookAtMark(t, api.ErrName, "message A { @A.B.C x = 1; message B { } message C { } }")
	lookAtTaken(t, `import "c"; import "b"; message A { C c = 1; B b = 2; }`, `import "c"; message B { C c = 1; }`, "message C { }")
}

func TestP6_1Marks(t *testing.T) {
	for _, s := range []string{"@optional M m = 1;", "int32 x = 1; @optional M m = 2;", "optional M m = 1 [@packed = true];", "optional M m = 1 [@packed = false];",
		"map<@double, M> m = 1;", "map<@float, int32> m = 1;", "map<@bytes, int32> m = 1;", "map<@M, int32> m = 1;", "map<@E, int32> m = 1;", "map<@foo, int32> m = 1;", "map<@Int32, int32> m = 1;", "map<@message, int32> m = 1;",
		"int32 x = 1 [@packed = true];", "int32 x = 1 [@packed = false];", "optional int32 x = 1 [@packed = true];", "optional E x = 1 [@packed = false];", "E x = 1 [@packed = true];", "M x = 1 [@packed = true];",
		"repeated string x = 1 [@packed = true];", "repeated string x = 1 [@packed = false];", "repeated bytes x = 1 [@packed = false];", "repeated M x = 1 [@packed = true];", "repeated M x = 1 [@packed = false];"} {
		lookAtMembers(t, api.ErrOption, s)
	}
	for _, kind := range []string{"bool", "int32", "int64", "uint32", "uint64", "sint32", "sint64", "fixed32", "fixed64", "sfixed32", "sfixed64", "float", "double", "E"} {
		lookAtTaken(t, "enum E { Z = 0; } message M { repeated "+kind+" x = 1 [packed = true]; repeated "+kind+" y = 2 [packed = false]; repeated "+kind+" z = 3; optional "+kind+" w = 4; }")
	}
	for _, kind := range []string{"bool", "int32", "int64", "uint32", "uint64", "sint32", "sint64", "fixed32", "fixed64", "sfixed32", "sfixed64", "string"} {
		lookAtTaken(t, "enum E { Z = 0; } message M { map<"+kind+", M> x = 1; map<"+kind+", E> y = 2; map<"+kind+", bytes> z = 3; }")
	}
	lookAtTaken(t, "message M { optional string s = 1; optional bytes b = 2; repeated string t = 3; repeated M m = 4; }")
	lookAtMark(t, api.ErrOption, "enum string { Z = 0; } enum double { Z = 0; } message M { map<string, double> m = 1; map<@double, string> n = 2; }") // a kind's name is the kind's, whoever else has it
}

func TestP6_1Enums(t *testing.T) {
	lookAtMark(t, api.ErrSymbol, "enum @E { }")
	lookAtMark(t, api.ErrSymbol, "message M { enum @E { } }")
	lookAtMark(t, api.ErrSymbol, "enum E { A = @1; }")
	lookAtMark(t, api.ErrSymbol, "enum E { A = @1; B = 0; }")
	lookAtMark(t, api.ErrSymbol, "enum E { A = @2147483648; A = 1; }")
	lookAtMark(t, api.ErrSymbol, "enum E { A = @18446744073709551615; }")
	lookAtMark(t, api.ErrDup, "enum E { A = 0; @A = 1; }")
	lookAtMark(t, api.ErrDup, "enum E { A = 0; @A = 0; }")
	lookAtMark(t, api.ErrDup, "enum E { A = 0; B = 1; C = 2; @B = 2147483648; A = 4; }")
	lookAtMark(t, api.ErrRange, "enum E { A = 0; B = @2147483648; C = 2147483648; }")
	lookAtMark(t, api.ErrRange, "enum E { A = 0; B = 5; C = @18446744073709551615; }")
	lookAtMark(t, api.ErrNumber, "enum E { A = 0; B = @0; }")
	lookAtMark(t, api.ErrNumber, "enum E { A = 0; B = 7; C = 1; D = @0x7; E = 0; }")
	lookAtTaken(t, "enum E { A = 0; B = 2147483647; C = 5; D = 0x7ffffffe; a = 1; }")
	lookAtTaken(t, "enum E { E = 0; int32 = 1; } enum F { E = 0; }")
}

// symbols tells so many lines, each a symbol; the first one's number is 0.
func symbols(count int) string { return lines(count, "S# = #;") }

func TestP6_1CountOfSymbols(t *testing.T) {
	lookAtTaken(t, "enum E {"+symbols(api.MaxFields)+"}")
	lookAtMark(t, api.ErrLimit, "enum E {"+symbols(api.MaxFields)+"@Last = 1000; More = 1001; }")
	lookAtMark(t, api.ErrLimit, "enum E {"+symbols(api.MaxFields)+"@S0 = 2147483648; }") // the limit goes ahead of what is wrong with it
	lookAtMark(t, api.ErrNumber, "enum E {"+symbols(api.MaxFields-1)+"Last = @5; More = 1001; }")
	lookAtMark(t, api.ErrSymbol, "enum E { A = @1;"+symbols(api.MaxFields)+"}")
}
