package parse_test

import (
	"slices"
	"testing"

	"cartouche/api"
	"cartouche/parse"
)

// keywords are names that stand for themselves somewhere.
var keywords = []string{"message", "enum", "oneof", "reserved", "optional", "repeated", "map", "import", "to", "packed", "true", "false"}

// beginners are those with which a member is of a form of its own.
var beginners = keywords[:7]

func sameFile(a, b parse.File) bool {
	return slices.Equal(a.Imports, b.Imports) && slices.EqualFunc(a.Decls, b.Decls, sameDecl)
}

func sameDecl(a, b parse.Decl) bool {
	return a.Enum == b.Enum && a.Name == b.Name && a.At == b.At && slices.Equal(a.Fields, b.Fields) &&
		slices.Equal(a.Oneofs, b.Oneofs) && slices.EqualFunc(a.Decls, b.Decls, sameDecl) &&
		slices.Equal(a.Reserved, b.Reserved) && slices.Equal(a.Symbols, b.Symbols)
}

func at(line, col int) parse.Place { return parse.Place{Line: line, Col: col} }

// treeOf is the tree of a text that must be taken.
func treeOf(t *testing.T, text string) parse.File {
	t.Helper()
	f, fault := parse.Parse(text)
	if fault != (api.Fault{}) {
		t.Fatalf("Parse(%q): fault %v", text, fault)
	}
	return f
}

func lookAtTree(t *testing.T, text string, want parse.File) {
	t.Helper()
	if f := treeOf(t, text); !sameFile(f, want) {
		t.Errorf("Parse(%q):\n%+v, want\n%+v", text, f, want)
	}
}

func lookAtFault(t *testing.T, text string, e api.Errno, line, col int) {
	t.Helper()
	f, fault := parse.Parse(text)
	if want := (api.Fault{Code: e, Line: line, Col: col}); fault != want || !sameFile(f, parse.File{}) {
		t.Errorf("Parse(%q): %+v, fault %v, want %v", text, f, fault, want)
	}
}
