package check_test

import (
	"strings"
	"testing"

	"cartouche/api"
)

// wrong is a way to spoil a bundle, and the fault that it brings.
type wrong struct {
	spoil func(l []api.Source) []api.Source
	want  api.Fault
}

func textAt(file int, text string) func(l []api.Source) []api.Source {
	return func(l []api.Source) []api.Source {
		l[file-1].Text = text
		return l
	}
}

// wrongs are one of each step of P6.1, in its order. Later steps' faults stand in earlier files.
func wrongs() []wrong {
	return []wrong{
		{func(l []api.Source) []api.Source { return append(l, manyFiles(api.MaxFiles)...) }, api.Fault{Code: api.ErrLimit}},
		{func(l []api.Source) []api.Source { l[0].Text = strings.Repeat(" ", api.MaxText+1); return l }, api.Fault{Code: api.ErrTooBig}},
		{func(l []api.Source) []api.Source { l[9].Name = l[8].Name; return l }, api.Fault{Code: api.ErrDup, File: 10}},
		{textAt(8, "%"), api.Fault{Code: api.ErrSyntax, File: 8, Line: 1, Col: 1}},
		{textAt(7, `import "g"; import "g";`), api.Fault{Code: api.ErrDup, File: 7, Line: 1, Col: 20}},
		{textAt(6, `import "f";`), api.Fault{Code: api.ErrCycle, File: 6, Line: 1, Col: 8}},
		{textAt(5, `message X { } enum X { }`), api.Fault{Code: api.ErrDup, File: 5, Line: 1, Col: 20}},
		{textAt(4, `message Y { Foo f = 1; }`), api.Fault{Code: api.ErrName, File: 4, Line: 1, Col: 13}},
	}
}

// TestP6_1Steps has all sets of faults of different steps: the first step's is told, wherever it stands.
func TestP6_1Steps(t *testing.T) {
	all := wrongs()
	for set := range 1 << len(all) {
		l := files(make([]string, 10)...)
		want := api.Fault{}
		for i := len(all) - 1; i >= 0; i-- {
			if set>>i&1 == 1 {
				l, want = all[i].spoil(l), all[i].want
			}
		}
		lookAtFault(t, l, want)
	}
}

// TestP6_1OneStep has faults of one step: the first file's, import's or declaration's goes ahead, whatever it is.
func TestP6_1OneStep(t *testing.T) {
	lookAtMark(t, api.ErrSyntax, "message A {@", "#")
	lookAtMark(t, api.ErrRange, "enum E { A = @99999999999999999999; }", "#")
	lookAtMark(t, api.ErrImport, `import @"x"; import "b"; import "b";`, "")
	lookAtMark(t, api.ErrDup, `import "b"; import @"b"; import "x";`, "")
	lookAtMark(t, api.ErrDup, `import "b"; import @"b";`, `import "x";`)
	lookAtMark(t, api.ErrImport, `import "a";`, `import @"x";`) // rings are asked for when all imports are through
	lookAtMark(t, api.ErrDup, `import "b";`, `import "a"; import @"a";`)
	lookAtMark(t, api.ErrCycle, `import "c";`, `import @"b";`, `import "c";`)
	lookAtMark(t, api.ErrDup, "message A { Foo x = 1; reserved 0; }", "message @A { }")
	lookAtMark(t, api.ErrName, "message A { @Foo x = 1; }", "message B { reserved 0; }")
	lookAtMark(t, api.ErrRange, "message B { reserved @0; } message A { Foo x = 1; }")
	lookAtMark(t, api.ErrSymbol, "enum @E { } message A { Foo x = 1; }")
	lookAtMark(t, api.ErrName, "message A { @Foo x = 1; } enum E { }")
}

// TestP6_1Within has faults in declarations that stand in one another: the outer one's go ahead, though they stand behind.
func TestP6_1Within(t *testing.T) {
	lookAtMark(t, api.ErrName, "message A { message B { reserved 0; } enum E { } @Foo x = 1; }")
	lookAtMark(t, api.ErrRange, "message A { message B { message C { enum E { } int32 x = 0; } oneof o { Foo y = 2; } reserved @0; } }")
	lookAtMark(t, api.ErrSymbol, "message A { message B { enum @E { } } message C { Foo x = 1; } } message D { reserved 0; }")
	lookAtMark(t, api.ErrRange, "message A { message B { } message C { Foo x = @0; } } message D { reserved 0; }")
}

// TestP6_1InMessage has a message's own faults in the order in which they are asked for, though they stand the other way round.
func TestP6_1InMessage(t *testing.T) {
	field, oneofs, reserved := "Foo f = 0; ", "oneof o { int32 x = 1; } oneof o { int32 y = 2; } ", "reserved 5, 5; "
	lookAtMembers(t, api.ErrNumber, field+oneofs+"reserved 5, @5;")
	lookAtMembers(t, api.ErrDup, field+"oneof o { int32 x = 1; } oneof @o { int32 y = 2; } ")
	lookAtMembers(t, api.ErrRange, "Foo f = @0; oneof o { int32 x = 1; } ")
	lookAtMembers(t, api.ErrNumber, oneofs+"reserved 5, @5;")
	lookAtMembers(t, api.ErrNumber, field+"reserved 5, @5;")
	lookAtMark(t, api.ErrRange, "message A { Foo f = @0; } message B { "+reserved+oneofs+field+"}")
	lookAtMembers(t, api.ErrNumber, "reserved 5, @5, 0;") // one by one: the first range's fault
	lookAtMembers(t, api.ErrRange, "reserved 5, @0, 5;")
	lookAtMembers(t, api.ErrName, "@Foo f = 1; int32 f = 0; int32 g = 0;")
	lookAtMembers(t, api.ErrOption, "@optional M f = 1; Foo f = 0; int32 g = 0;")
	lookAtMark(t, api.ErrNumber, "enum E { A = 0; B = @0; A = 1; C = 2147483648; }")
	lookAtMark(t, api.ErrRange, "enum E { A = 0; B = @2147483648; A = 1; C = 0; }")
	lookAtMark(t, api.ErrDup, "enum E { A = 0; @A = 2147483648; C = 0; }")
}

// TestP6_1InField has all sets of faults of one field: name, number, type, mark.
func TestP6_1InField(t *testing.T) {
	for set := range 1 << 4 {
		name, number, written, mark, e := "y", "2", "int32", "repeated", api.OK
		if set&8 != 0 {
			mark, e = "@optional", api.ErrOption
			written = "M"
		}
		if set&4 != 0 {
			mark, written, e = strings.TrimPrefix(mark, "@"), "@Foo", api.ErrName
		}
		for _, bad := range []string{"0", "1"} {
			name, number, mark, written, e := name, number, mark, written, e
			if set&2 != 0 {
				mark, written = strings.TrimPrefix(mark, "@"), strings.TrimPrefix(written, "@")
				number, e = "@"+bad, map[string]api.Errno{"0": api.ErrRange, "1": api.ErrNumber}[bad]
			}
			if set&1 != 0 {
				mark, written, number = strings.TrimPrefix(mark, "@"), strings.TrimPrefix(written, "@"), strings.TrimPrefix(number, "@")
				name, e = "@x", api.ErrDup
			}
			lookAtMembers(t, e, "int32 x = 1; "+mark+" "+written+" "+name+" = "+number+";")
		}
	}
}
