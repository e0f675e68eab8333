package self_test

import (
	"reflect"
	"testing"

	"cartouche/api"
	"cartouche/samples"
	"cartouche/self"
)

// oneOf is a table of one message.
func oneOf(x api.Type) api.Table {
	x.Name = "M"
	return tableOf(x)
}

func TestP12_1Examples(t *testing.T) {
	e := tableOf(em().Types[0])
	lookAtSaid(t, e, msg(field(1, in(msg(field(1, str("E")), field(2, num(1)), field(5, in(msg(field(1, str("A"))))))))))
	lookAtSaid(t, api.Table{}, msg())
	lookAtSaid(t, api.Table{Types: []api.Type{}}, msg())
	lookAtSaid(t, em(), read(t, `types [ { name : "E" enum : true symbols [ { name : "A" } ] }
		{ name : "M" fields [ { name : "x" number : 1 kind : 2 } { name : "l" number : 2 kind : 4 label : 3 } { name : "m" number : 3 kind : 17 ref : 1 label : 1 } ] } ]`))
}

// TestP12_1Fields has each number of a field, a symbol and a range in its place, and nowhere else; what is a default is not there.
func TestP12_1Fields(t *testing.T) {
	for _, row := range []struct {
		x    api.Table
		want string
	}{
		{tableOf(messageOf("M")), `types [ { name : "M" } ]`},
		{tableOf(messageOf("A"), messageOf("A.B"), api.Type{Name: "A.B.C", Enum: true, Symbols: few().Symbols}), `types [ { name : "A" } { name : "A.B" } { name : "A.B.C" enum : true symbols [ { name : "A" } { name : "C" number : 2147483647 } { name : "B" number : 5 } ] } ]`},
		{oneOf(messageOf("", api.FieldType{Name: "f", Number: api.MaxNumber, Kind: api.Bool})), `types [ { name : "M" fields [ { name : "f" number : 536870911 kind : 1 } ] } ]`},
		{oneOf(messageOf("", api.FieldType{Name: "f", Number: 9, Kind: api.Message, Label: api.Optional})), `types [ { name : "M" fields [ { name : "f" number : 9 kind : 17 label : 1 } ] } ]`},
		{tableOf(few(), messageOf("M"), messageOf("N", api.FieldType{Name: "f", Number: 9, Kind: api.Message, Ref: 2, Label: api.Repeated})), `types [ { name : "E" enum : true symbols [ { name : "A" } { name : "C" number : 2147483647 } { name : "B" number : 5 } ] } { name : "M" } { name : "N" fields [ { name : "f" number : 9 kind : 17 ref : 2 label : 2 } ] } ]`},
		{oneOf(messageOf("", api.FieldType{Name: "f", Number: 1, Kind: api.Sint64, Label: api.Packed})), `types [ { name : "M" fields [ { name : "f" number : 1 kind : 7 label : 3 } ] } ]`},
		{oneOf(api.Type{Oneofs: []string{"p", "o"}, Fields: []api.FieldType{{Name: "f", Number: 1, Kind: api.Bytes, Label: api.Member, Oneof: 1}, {Name: "g", Number: 2, Kind: api.Float, Label: api.Member}}}), `types [ { name : "M" oneofs [ "p" "o" ] fields [ { name : "f" number : 1 kind : 15 label : 4 oneof : 1 } { name : "g" number : 2 kind : 12 label : 4 } ] } ]`},
		{oneOf(messageOf("", api.FieldType{Name: "f", Number: 3, Kind: api.Double, Label: api.Map, Key: api.String})), `types [ { name : "M" fields [ { name : "f" number : 3 kind : 13 label : 5 key : 14 } ] } ]`},
		{oneOf(api.Type{Reserved: []api.Range{{Low: 1, High: 1}, {Low: 2, High: 7}, {Low: 9, High: api.MaxNumber}}}), `types [ { name : "M" reserved [ { low : 1 high : 1 } { low : 2 high : 7 } { low : 9 high : 536870911 } ] } ]`},
		{tableOf(api.Type{Name: "E", Enum: true, Symbols: []api.Symbol{{Name: "Z"}, {Name: "B", Number: 7}, {Name: "A", Number: 1}}}), `types [ { name : "E" enum : true symbols [ { name : "Z" } { name : "B" number : 7 } { name : "A" number : 1 } ] } ]`},
		{tableOf(messageOf("Z"), messageOf("A"), messageOf("M")), `types [ { name : "Z" } { name : "A" } { name : "M" } ]`},
	} {
		lookAtSaid(t, row.x, read(t, row.want))
		lookAtHeard(t, read(t, row.want), row.x)
	}
}

// TestP12_1Wrong has tables that are not good.
func TestP12_1Wrong(t *testing.T) {
	for _, w := range samples.WrongTables() {
		lookAtUnsaid(t, w.What, w.Table)
	}
	lookAtUnsaid(t, "M alone, m's Ref 1", tableOf(em().Types[1]))
	lookAtUnsaid(t, "a type without a name", tableOf(api.Type{}))
	lookAtUnsaid(t, "a range that falls", oneOf(api.Type{Reserved: []api.Range{{Low: 5, High: 4}}}))
	lookAtUnsaid(t, "a range that is taken", oneOf(api.Type{Reserved: []api.Range{{Low: 5, High: 6}}, Fields: []api.FieldType{{Name: "f", Number: 6, Kind: api.Bool}}}))
	lookAtUnsaid(t, "symbols of a message", oneOf(api.Type{Symbols: few().Symbols}))
	lookAtUnsaid(t, "fields of an enum", tableOf(api.Type{Name: "E", Enum: true, Symbols: few().Symbols, Fields: em().Types[1].Fields[:1]}))
	lookAtUnsaid(t, "a symbol above", tableOf(api.Type{Name: "E", Enum: true, Symbols: []api.Symbol{{Name: "A"}, {Name: "B", Number: 1 << 31}}}))
}

// TestP12_1Full has tables at the limits.
func TestP12_1Full(t *testing.T) {
	symbols := api.Type{Name: "E", Enum: true}
	ranges := api.Type{Name: "R"}
	for i := range api.MaxFields {
		name := "S" + string(rune('a'+i%26)) + string(rune('a'+i/26))
		symbols.Symbols = append(symbols.Symbols, api.Symbol{Name: name, Number: i * 16909320})
		ranges.Reserved = append(ranges.Reserved, api.Range{Low: 10 * i, High: 10*i + 8})
	}
	ranges.Reserved[0].Low = 1
	for _, x := range []api.Table{samples.Full(), tableOf(symbols, ranges), all(), meta()} {
		whole, e := said(x)
		if e != api.OK {
			t.Fatalf("error %d", e)
		}
		lookAtSaid(t, x, whole)
		lookAtHeard(t, whole, x)
		lookAtHeard(t, saidWhole(0, reflect.ValueOf(x)), x)
		if m, _ := self.ToMsg(x); len(m.Fields) != 1 || len(m.Fields[0].Vals) != len(x.Types) {
			t.Errorf("%s says other than %d types", shortly(m), len(x.Types))
		}
	}
}
