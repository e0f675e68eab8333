package check_test

import (
	"fmt"
	"testing"

	"cartouche/api"
)

func plain(name string, number, kind int) api.FieldType {
	return api.FieldType{Name: name, Number: number, Kind: kind}
}

func TestP6_2Examples(t *testing.T) {
	lookAtTable(t, files("enum E { A = 0; } message M { E e = 2; repeated E l = 1; M m = 3; }"),
		api.Type{Name: "E", Enum: true, Symbols: []api.Symbol{{Name: "A", Number: 0}}},
		api.Type{Name: "M", Fields: []api.FieldType{
			{Name: "l", Number: 1, Kind: api.Enum, Ref: 0, Label: api.Packed},
			{Name: "e", Number: 2, Kind: api.Enum, Ref: 0, Label: api.Plain},
			{Name: "m", Number: 3, Kind: api.Message, Ref: 1, Label: api.Optional},
		}})
	lookAtTable(t, files(`import "b"; message A { B b = 1; }`, "message B {}"),
		api.Type{Name: "A", Fields: []api.FieldType{{Name: "b", Number: 1, Kind: api.Message, Ref: 1, Label: api.Optional}}},
		api.Type{Name: "B"})
}

// kindNames are the kinds' names, Bool's first.
var kindNames = []string{"bool", "int32", "int64", "uint32", "uint64", "sint32", "sint64", "fixed32", "fixed64", "sfixed32", "sfixed64", "float", "double", "string", "bytes"}

func isNumeric(kind int) bool { return kind <= api.Double || kind == api.Enum }

func isKey(kind int) bool { return kind <= api.Sfixed64 || kind == api.String }

// TestP6_2EachKind has each kind, an enum and a message among them, under each label.
func TestP6_2EachKind(t *testing.T) {
	for i, written := range append(kindNames, "E", "N") {
		kind, ref, alone, row := i+1, 0, api.Plain, api.Repeated
		if isNumeric(kind) {
			row = api.Packed
		}
		switch kind {
		case api.Enum:
			ref = 1
		case api.Message:
			ref, alone = 2, api.Optional
		}
		text := fmt.Sprintf("message M { %[1]s a = 1; repeated %[1]s b = 2; oneof o { bool q = 9; } oneof p { %[1]s c = 3; } map<uint64, %[1]s> d = 4; ", written)
		want := []api.FieldType{
			{Name: "a", Number: 1, Kind: kind, Ref: ref, Label: alone}, {Name: "b", Number: 2, Kind: kind, Ref: ref, Label: row},
			{Name: "c", Number: 3, Kind: kind, Ref: ref, Label: api.Member, Oneof: 1}, {Name: "d", Number: 4, Kind: kind, Ref: ref, Label: api.Map, Key: api.Uint64},
		}
		if kind != api.Message {
			text += "optional " + written + " e = 5; "
			want = append(want, api.FieldType{Name: "e", Number: 5, Kind: kind, Ref: ref, Label: api.Optional})
		}
		if isNumeric(kind) {
			text += fmt.Sprintf("repeated %[1]s f = 6 [packed = true]; repeated %[1]s g = 7 [packed = false]; ", written)
			want = append(want, api.FieldType{Name: "f", Number: 6, Kind: kind, Ref: ref, Label: api.Packed}, api.FieldType{Name: "g", Number: 7, Kind: kind, Ref: ref, Label: api.Repeated})
		}
		want = append(want, api.FieldType{Name: "q", Number: 9, Kind: api.Bool, Label: api.Member})
		lookAtTable(t, files(text+"} enum E { Z = 0; } message N { }"), api.Type{Name: "M", Fields: want, Oneofs: []string{"o", "p"}},
			api.Type{Name: "E", Enum: true, Symbols: []api.Symbol{{Name: "Z"}}}, api.Type{Name: "N"})
	}
}

func TestP6_2EachKey(t *testing.T) {
	for i, key := range kindNames {
		if !isKey(i + 1) {
			continue
		}
		lookAtTable(t, files("message M { map<"+key+", bytes> m = 7; }"), api.Type{Name: "M", Fields: []api.FieldType{{Name: "m", Number: 7, Kind: api.Bytes, Label: api.Map, Key: i + 1}}})
	}
}

func TestP6_2Rising(t *testing.T) {
	lookAtTable(t, files("message M { bool c = 536870911; oneof p { bool z = 20; bool y = 2; } bool a = 5; oneof o { bool x = 19; bool b = 1; } reserved 30, 21 to 25, 3; reserved 4, 26 to 29, 6 to 18; }"),
		api.Type{Name: "M", Oneofs: []string{"p", "o"}, Reserved: []api.Range{{Low: 3, High: 3}, {Low: 4, High: 4}, {Low: 6, High: 18}, {Low: 21, High: 25}, {Low: 26, High: 29}, {Low: 30, High: 30}},
			Fields: []api.FieldType{
				{Name: "b", Number: 1, Kind: api.Bool, Label: api.Member, Oneof: 1}, {Name: "y", Number: 2, Kind: api.Bool, Label: api.Member}, plain("a", 5, api.Bool),
				{Name: "x", Number: 19, Kind: api.Bool, Label: api.Member, Oneof: 1}, {Name: "z", Number: 20, Kind: api.Bool, Label: api.Member}, plain("c", 536870911, api.Bool),
			}})
	lookAtTable(t, files("message M { reserved 1 to 536870911; }"), api.Type{Name: "M", Reserved: []api.Range{{Low: 1, High: 536870911}}})
}

func TestP6_2Symbols(t *testing.T) {
	lookAtTable(t, files("enum E { B = 0; C = 2147483647; A = 5; D = 0x2; }"),
		api.Type{Name: "E", Enum: true, Symbols: []api.Symbol{{Name: "B"}, {Name: "C", Number: 2147483647}, {Name: "A", Number: 5}, {Name: "D", Number: 2}}})
}

func ref(name string, number, index int) api.FieldType {
	return api.FieldType{Name: name, Number: number, Kind: api.Message, Ref: index, Label: api.Optional}
}

// TestP6_2Order has each declaration ahead of those within it, file by file.
func TestP6_2Order(t *testing.T) {
	lookAtTable(t, files(`import "b"; message A { message B { enum E { Z = 0; } message C { } } message D { } X.Y y = 1; B.C c = 2; D d = 3; A a = 4; B.E e = 5; }`, "enum F { Z = 0; } message X { message Y { } }"),
		api.Type{Name: "A", Fields: []api.FieldType{ref("y", 1, 7), ref("c", 2, 3), ref("d", 3, 4), ref("a", 4, 0), {Name: "e", Number: 5, Kind: api.Enum, Ref: 2}}},
		api.Type{Name: "A.B"}, api.Type{Name: "A.B.E", Enum: true, Symbols: []api.Symbol{{Name: "Z"}}}, api.Type{Name: "A.B.C"}, api.Type{Name: "A.D"},
		api.Type{Name: "F", Enum: true, Symbols: []api.Symbol{{Name: "Z"}}}, api.Type{Name: "X"}, api.Type{Name: "X.Y"})
	lookAtTable(t, files("message X { message Y { } }", `message A { X.Y y = 1; } import "a";`),
		api.Type{Name: "X"}, api.Type{Name: "X.Y"}, api.Type{Name: "A", Fields: []api.FieldType{ref("y", 1, 1)}})
}

// TestP6_2Resolving has the message's own declarations ahead of those around it, these ahead of the file's.
func TestP6_2Resolving(t *testing.T) {
	for _, x := range []struct {
		text string
		refs []int // of the fields of the type named by the index ahead of them
	}{
		{"message A { message B { message C { T x = 1; message T { } } message T { } } message T { } } message T { }", []int{2, 3}},
		{"message A { message B { message C { T x = 1; } message T { } } message T { } } message T { }", []int{2, 3}},
		{"message A { message B { message C { T x = 1; } } message T { } } message T { }", []int{2, 3}},
		{"message A { message B { message C { T x = 1; } } } message T { }", []int{2, 3}},
		{"message A { message B { message C { T x = 1; message X { message T { } } } } } message T { }", []int{2, 5}},
		{"message A { message A { A x = 1; } }", []int{1, 1}},
		{"message A { A x = 1; message A { } }", []int{0, 1}},
		{"message A { message B { A.B x = 1; } message A { } }", []int{1, 1}}, // names are taken as wholes: A.A.B is none
		{"message A { message B { A.B x = 1; } message A { message B { } } }", []int{1, 3}},
		{"message A { message B { B x = 1; message B { } } }", []int{1, 2}},
		{"message A { message B { B.B x = 1; message B { } } }", []int{1, 2}},
		{"message A { B . C x = 1; message B { message C { } } } message B { message C { } message D { } }", []int{0, 2}},
		{"message A { B /* */ . // \n D x = 1; message B { message C { } } } message B { message C { } message D { } }", []int{0, 5}},
	} {
		got := tableOf(t, files(x.text)).Types[x.refs[0]]
		if len(got.Fields) != 1 || got.Fields[0].Ref != x.refs[1] {
			t.Errorf("%s: %+v, want the index %d", x.text, got, x.refs[1])
		}
	}
	lookAtTable(t, files("enum int32 { A = 0; } message M { int32 x = 1; M.int32 y = 2; message int32 { } }"),
		api.Type{Name: "int32", Enum: true, Symbols: []api.Symbol{{Name: "A"}}},
		api.Type{Name: "M", Fields: []api.FieldType{plain("x", 1, api.Int32), ref("y", 2, 2)}}, api.Type{Name: "M.int32"})
}

// TestP6_2Imported has names of imported files seen as the file's own are.
func TestP6_2Imported(t *testing.T) {
	lookAtTable(t, files("message Z { }", `import "c"; message A { message B { T x = 1; U.T z = 3; } }`, "message T { } message U { message T { } }"),
		api.Type{Name: "Z"}, api.Type{Name: "A"}, api.Type{Name: "A.B", Fields: []api.FieldType{ref("x", 1, 3), ref("z", 3, 5)}}, api.Type{Name: "T"}, api.Type{Name: "U"}, api.Type{Name: "U.T"})
}
