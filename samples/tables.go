package samples

import (
	"math"
	"strconv"

	"cartouche/api"
)

// Table is a table of types.
func Table(l ...api.Type) api.Table { return api.Table{Types: l} }

// Message is a message's type.
func Message(name string, l ...api.FieldType) api.Type { return api.Type{Name: name, Fields: l} }

// Symbols is an enum with the least number, the greatest, and one between.
func Symbols() api.Type {
	return api.Type{Name: "E", Enum: true, Symbols: []api.Symbol{{Name: "A"}, {Name: "C", Number: high}, {Name: "B", Number: 5}}}
}

// Small is chapter 7's table: E, an enum with A 0, and M, a message with x, l and m.
func Small() api.Table {
	return Table(api.Type{Name: "E", Enum: true, Symbols: []api.Symbol{{Name: "A"}}}, Message("M",
		api.FieldType{Name: "x", Number: 1, Kind: api.Int32},
		api.FieldType{Name: "l", Number: 2, Kind: api.Uint32, Label: api.Packed},
		api.FieldType{Name: "m", Number: 3, Kind: api.Message, Ref: 1, Label: api.Optional}))
}

// Wide is a table with each label, two oneofs, and messages wherever there can be some. Its types: 0 E, 1 W, 2 V.
func Wide() api.Table {
	w := Message("W",
		api.FieldType{Name: "plain", Number: 1, Kind: api.Sint64},
		api.FieldType{Name: "text", Number: 2, Kind: api.String},
		api.FieldType{Name: "symbol", Number: 3, Kind: api.Enum},
		api.FieldType{Name: "optional", Number: 4, Kind: api.Bool, Label: api.Optional},
		api.FieldType{Name: "within", Number: 5, Kind: api.Message, Ref: 2, Label: api.Optional},
		api.FieldType{Name: "repeated", Number: 6, Kind: api.Fixed32, Label: api.Repeated},
		api.FieldType{Name: "packed", Number: 7, Kind: api.Double, Label: api.Packed},
		api.FieldType{Name: "list", Number: 8, Kind: api.Message, Ref: 1, Label: api.Repeated},
		api.FieldType{Name: "map", Number: 9, Kind: api.Message, Ref: 2, Label: api.Map, Key: api.String},
		api.FieldType{Name: "numbers", Number: 10, Kind: api.Enum, Label: api.Map, Key: api.Int32},
		api.FieldType{Name: "a1", Number: 11, Kind: api.Int32, Label: api.Member},
		api.FieldType{Name: "b1", Number: 12, Kind: api.Message, Ref: 1, Label: api.Member, Oneof: 1},
		api.FieldType{Name: "a2", Number: 13, Kind: api.Message, Ref: 2, Label: api.Member},
		api.FieldType{Name: "b2", Number: 14, Kind: api.Bytes, Label: api.Member, Oneof: 1},
		api.FieldType{Name: "last", Number: api.MaxNumber, Kind: api.Bytes})
	w.Oneofs = []string{"a", "b"}
	v := Message("V", api.FieldType{Name: "x", Number: 2, Kind: api.Float}, api.FieldType{Name: "w", Number: 5, Kind: api.Message, Ref: 1, Label: api.Optional})
	v.Reserved = []api.Range{{Low: 7, High: 9}}
	return Table(Symbols(), w, v)
}

// In the tables that Single tells: the type of messages within (its field 1 is an Int32, Plain), the type that is asked, and its field's number.
const (
	Inner  = 1
	Around = 2
	Number = 7
)

// Files is a bundle of two files: the messages A, B, B.C and the enum E, in that order.
func Files() []api.Source {
	return []api.Source{
		{Name: "a", Text: `import "b"; message A { B b = 1; B.C c = 2; repeated int32 l = 3; repeated bool p = 4 [packed = false]; oneof o { A a = 5; E e = 6; } optional float f = 7; reserved 9; }`},
		{Name: "b", Text: "message B { message C { map<bool, string> m = 1; map<int32, B> n = 2; } } enum E { X = 0; Y = 7; }"},
	}
}

// Single tells a table in which the type Around has a field of that kind and label alone.
func Single(kind, label, key int) api.Table {
	f := api.FieldType{Name: "f", Number: Number, Kind: kind, Label: label, Key: key}
	if kind == api.Message {
		f.Ref = Inner
	}
	x := Message("T", f)
	if label == api.Member {
		x.Oneofs = []string{"o"}
	}
	return Table(Symbols(), Message("I", api.FieldType{Name: "x", Number: 1, Kind: api.Int32}), x)
}

// Singles tells all good tables that Single tells.
func Singles() []api.Table {
	var l []api.Table
	for kind := api.Bool; kind <= api.Message; kind++ {
		for label := api.Plain; label < api.Map; label++ {
			if CanBe(kind, label) {
				l = append(l, Single(kind, label, 0))
			}
		}
		for _, key := range KeyKinds() {
			l = append(l, Single(kind, api.Map, key))
		}
	}
	return l
}

// CanBe tells whether a field may have both.
func CanBe(kind, label int) bool {
	return !(label == api.Plain && kind == api.Message) && !(label == api.Packed && Wire(kind) == api.Chunk)
}

// Full tells the greatest table that is good.
func Full() api.Table {
	var t api.Table
	for i := range api.MaxTypes {
		x := Message("M" + strconv.Itoa(i))
		for j := range api.MaxFields {
			x.Fields = append(x.Fields, api.FieldType{Name: "f" + strconv.Itoa(j), Number: j + 1, Kind: api.Int32})
		}
		t.Types = append(t.Types, x)
	}
	return t
}

// Wrong is a table that is not good, and why.
type Wrong struct {
	What  string
	Table api.Table
}

// WrongTables tells Small with one thing changed, so that it is not good.
func WrongTables() []Wrong {
	var l []Wrong
	add := func(what string, change func(x *api.Table)) {
		t := Small()
		change(&t)
		l = append(l, Wrong{what, t})
	}
	ofField := func(what string, i int, change func(f *api.FieldType)) {
		add(what, func(x *api.Table) { change(&x.Types[1].Fields[i]) })
	}
	add("a name that is none", func(x *api.Table) { x.Types[1].Name = "1" })
	add("a name twice", func(x *api.Table) { x.Types[1].Name = "E" })
	ofField("a kind below", 0, func(f *api.FieldType) { f.Kind = 0 })
	ofField("a kind above", 0, func(f *api.FieldType) { f.Kind = api.Message + 1 })
	ofField("a kind far off", 0, func(f *api.FieldType) { f.Kind = math.MinInt })
	ofField("a label above", 0, func(f *api.FieldType) { f.Label = api.Map + 1 })
	ofField("a label below", 0, func(f *api.FieldType) { f.Label = -1 })
	ofField("a Ref above", 2, func(f *api.FieldType) { f.Ref = 2 })
	ofField("a Ref below", 2, func(f *api.FieldType) { f.Ref = -1 })
	ofField("a Ref of the other sort", 2, func(f *api.FieldType) { f.Ref = 0 })
	ofField("a Ref of a number", 0, func(f *api.FieldType) { f.Ref = 1 })
	ofField("a oneof that is none", 0, func(f *api.FieldType) { f.Label = api.Member })
	ofField("a oneof far off", 0, func(f *api.FieldType) { f.Label, f.Oneof = api.Member, 1000 })
	add("a oneof without members", func(x *api.Table) { x.Types[1].Oneofs = []string{"o"} })
	ofField("a key that is none", 0, func(f *api.FieldType) { f.Label, f.Key = api.Map, api.Float })
	ofField("a key without a map", 0, func(f *api.FieldType) { f.Key = api.Bool })
	ofField("numbers that do not rise", 0, func(f *api.FieldType) { f.Number = 2 })
	ofField("the number 0", 0, func(f *api.FieldType) { f.Number = 0 })
	add("an enum without symbols", func(x *api.Table) { x.Types[0].Symbols = nil })
	add("a fault in a type elsewhere", func(x *api.Table) { x.Types = append(x.Types, api.Type{Name: "N", Enum: true}) })
	add("too many types", func(x *api.Table) { x.Types = append(x.Types, Full().Types[1:]...) })
	return l
}
