package table_test

import (
	"fmt"
	"strings"
	"testing"

	"cartouche/api"
	"cartouche/table"
)

// em is the chapter's table: E, an enum with A 0, and M, a message with x, l and m.
func em() api.Table {
	return tableOf(enumOf("E", api.Symbol{Name: "A"}), messageOf("M",
		api.FieldType{Name: "x", Number: 1, Kind: api.Int32},
		api.FieldType{Name: "l", Number: 2, Kind: api.Uint32, Label: api.Packed},
		api.FieldType{Name: "m", Number: 3, Kind: api.Message, Ref: 1, Label: api.Optional}))
}

func tableOf(l ...api.Type) api.Table { return api.Table{Types: l} }

func messageOf(name string, l ...api.FieldType) api.Type { return api.Type{Name: name, Fields: l} }

func enumOf(name string, l ...api.Symbol) api.Type {
	return api.Type{Name: name, Enum: true, Symbols: l}
}

// plainEnum is the least enum.
func plainEnum(name string) api.Type { return enumOf(name, api.Symbol{Name: "Z"}) }

// fields are so many, with numbers from 1 on.
func fields(count int) []api.FieldType {
	var out []api.FieldType
	for i := range count {
		out = append(out, api.FieldType{Name: fmt.Sprint("f", i), Number: i + 1, Kind: api.Bool})
	}
	return out
}

// symbols are so many, with numbers from 0 on.
func symbols(count int) []api.Symbol {
	var out []api.Symbol
	for i := range count {
		out = append(out, api.Symbol{Name: fmt.Sprint("S", i), Number: i})
	}
	return out
}

// ranges are so many, with a number between each two.
func ranges(count, from int) []api.Range {
	var out []api.Range
	for i := range count {
		out = append(out, api.Range{Low: from + 2*i, High: from + 2*i})
	}
	return out
}

// messages are so many without fields.
func messages(count int) []api.Type {
	var out []api.Type
	for i := range count {
		out = append(out, messageOf(fmt.Sprint("M", i)))
	}
	return out
}

// chain is so many messages, each within the one ahead of it.
func chain(count int) []api.Type {
	var out []api.Type
	for i := range count {
		out = append(out, messageOf("A"+strings.Repeat(".A", i)))
	}
	return out
}

// many is a good table with each label and each kind, enums and messages within messages, oneofs and ranges. Its types: 0 E, 1 M, 2 M.N, 3 M.N.F, 4 M.E.
func many() api.Table {
	m := messageOf("M",
		api.FieldType{Name: "plain", Number: 1, Kind: api.Enum, Ref: 3},
		api.FieldType{Name: "optional", Number: 2, Kind: api.Message, Ref: 1, Label: api.Optional},
		api.FieldType{Name: "repeated", Number: 3, Kind: api.String, Label: api.Repeated},
		api.FieldType{Name: "packed", Number: 4, Kind: api.Sint32, Label: api.Packed},
		api.FieldType{Name: "first", Number: 5, Kind: api.Bytes, Label: api.Member},
		api.FieldType{Name: "second", Number: 7, Kind: api.Message, Ref: 2, Label: api.Member, Oneof: 1},
		api.FieldType{Name: "third", Number: 8, Kind: api.Enum, Label: api.Member, Oneof: 1},
		api.FieldType{Name: "map", Number: 11, Kind: api.Message, Ref: 2, Label: api.Map, Key: api.String})
	m.Oneofs = []string{"one", "two"}
	m.Reserved = []api.Range{{Low: 6, High: 6}, {Low: 9, High: 10}, {Low: 12, High: 12}, {Low: 13, High: api.MaxNumber}}
	n := messageOf("M.N")
	for kind := api.Bool; kind < api.Enum; kind++ {
		n.Fields = append(n.Fields, api.FieldType{Name: fmt.Sprint("k", kind), Number: 10 * kind, Kind: kind, Label: kind % 3})
	}
	f := enumOf("M.N.F", api.Symbol{Name: "Z"}, api.Symbol{Name: "Y", Number: 1<<31 - 1}, api.Symbol{Name: "X", Number: 5})
	return tableOf(plainEnum("E"), m, n, f, plainEnum("M.E"))
}

func lookAtGood(t *testing.T, what string, x api.Table, want bool) {
	t.Helper()
	if got := table.Good(x); got != want {
		t.Errorf("%s: Good is %v, want %v: %.300s", what, got, want, fmt.Sprintf("%+v", x))
	}
}

// answer is what a call tells: of each that is asked one of these is told, the others are zero.
type answer struct {
	number int
	name   string
	field  api.FieldType
	e      api.Errno
}

func find(x api.Table, name string) answer {
	n, e := table.Find(x, name)
	return answer{number: n, e: e}
}

func field(x api.Table, index, number int) answer {
	f, e := table.Field(x, index, number)
	return answer{field: f, e: e}
}

func named(x api.Table, index int, name string) answer {
	f, e := table.Named(x, index, name)
	return answer{field: f, e: e}
}

func takes(x api.Table, index, number, kind int) answer {
	n, e := table.Takes(x, index, number, kind)
	return answer{number: n, e: e}
}

func symbol(x api.Table, index, number int) answer {
	s, e := table.Symbol(x, index, number)
	return answer{name: s, e: e}
}

func number(x api.Table, index int, name string) answer {
	n, e := table.Number(x, index, name)
	return answer{number: n, e: e}
}

func depths(x api.Table, index int) answer {
	n, e := table.Depths(x, index)
	return answer{number: n, e: e}
}

func lookAt(t *testing.T, what string, got, want answer) {
	t.Helper()
	if got != want {
		t.Errorf("%s: %+v, want %+v", what, got, want)
	}
}
