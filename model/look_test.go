package model_test

import (
	"fmt"
	"strings"
	"testing"

	"cartouche/api"
	"cartouche/model"
)

func tableOf(l ...api.Type) api.Table { return api.Table{Types: l} }

func messageOf(name string, l ...api.FieldType) api.Type { return api.Type{Name: name, Fields: l} }

// symbolsType is an enum with the least number, the greatest, and one between.
func symbolsType() api.Type {
	return api.Type{Name: "E", Enum: true, Symbols: []api.Symbol{{Name: "A"}, {Name: "C", Number: 1<<31 - 1}, {Name: "B", Number: 5}}}
}

// em is chapter 7's table: E, an enum with A 0, and M, a message with x, l and m.
func em() api.Table {
	return tableOf(api.Type{Name: "E", Enum: true, Symbols: []api.Symbol{{Name: "A"}}}, messageOf("M",
		api.FieldType{Name: "x", Number: 1, Kind: api.Int32},
		api.FieldType{Name: "l", Number: 2, Kind: api.Uint32, Label: api.Packed},
		api.FieldType{Name: "m", Number: 3, Kind: api.Message, Ref: 1, Label: api.Optional}))
}

// wide is a table with each label, two oneofs, and messages wherever there can be some. Its types: 0 E, 1 W, 2 V.
func wide() api.Table {
	w := messageOf("W",
		api.FieldType{Name: "plain", Number: 1, Kind: api.Sint64},
		api.FieldType{Name: "text", Number: 2, Kind: api.String},
		api.FieldType{Name: "symbol", Number: 3, Kind: api.Enum},
		api.FieldType{Name: "optional", Number: 4, Kind: api.Bool, Label: api.Optional},
		api.FieldType{Name: "within", Number: 5, Kind: api.Message, Ref: 2, Label: api.Optional},
		api.FieldType{Name: "repeated", Number: 6, Kind: api.Fixed32, Label: api.Repeated},
		api.FieldType{Name: "packed", Number: 7, Kind: api.Double, Label: api.Packed},
		api.FieldType{Name: "list", Number: 8, Kind: api.Message, Ref: 1, Label: api.Repeated},
		api.FieldType{Name: "map", Number: 9, Kind: api.Message, Ref: 2, Label: api.Map, Key: api.String},
		api.FieldType{Name: "numbers", Number: 10, Kind: api.Enum, Label: api.Map, Key: api.Int32},
		api.FieldType{Name: "a1", Number: 11, Kind: api.Int32, Label: api.Member},
		api.FieldType{Name: "b1", Number: 12, Kind: api.Message, Ref: 1, Label: api.Member, Oneof: 1},
		api.FieldType{Name: "a2", Number: 13, Kind: api.Message, Ref: 2, Label: api.Member},
		api.FieldType{Name: "b2", Number: 14, Kind: api.Bytes, Label: api.Member, Oneof: 1},
		api.FieldType{Name: "last", Number: api.MaxNumber, Kind: api.Bytes})
	w.Oneofs = []string{"a", "b"}
	v := messageOf("V", api.FieldType{Name: "x", Number: 2, Kind: api.Float}, api.FieldType{Name: "w", Number: 5, Kind: api.Message, Ref: 1, Label: api.Optional})
	v.Reserved = []api.Range{{Low: 7, High: 9}}
	return tableOf(symbolsType(), w, v)
}

func num(n int64) api.Val { return api.Val{N: uint64(n)} }

func str(s string) api.Val { return api.Val{B: []byte(s)} }

func in(l ...api.Msg) api.Val { return api.Val{M: l} }

func msg(l ...api.Field) api.Msg { return api.Msg{Fields: l} }

func field(number int, l ...api.Val) api.Field { return api.Field{Number: number, Vals: l} }

// pairs is a field of a map: a key, its value, the next key ..
func pairs(number int, l ...api.Val) api.Field {
	f := api.Field{Number: number}
	for i := 0; i < len(l); i += 2 {
		f.Keys, f.Vals = append(f.Keys, l[i]), append(f.Vals, l[i+1])
	}
	return f
}

func unknown(l ...api.Entry) api.Msg { return api.Msg{Unknown: l} }

// chunk, varint are entries.
func chunk(number int, s string) api.Entry {
	return api.Entry{Number: number, Kind: api.Chunk, B: []byte(s)}
}

func varint(number int, n uint64) api.Entry { return api.Entry{Number: number, N: n} }

// told tells all of a message; nil and empty lists are told as one.
func told(m api.Msg) string {
	var l []string
	for _, f := range m.Fields {
		s := fmt.Sprint(f.Number, toldVals(f.Vals))
		if len(f.Keys) > 0 {
			s += " by " + toldVals(f.Keys)
		}
		l = append(l, s)
	}
	for _, x := range m.Unknown {
		l = append(l, fmt.Sprintf("? %d %d %d %q", x.Number, x.Kind, x.N, x.B))
	}
	return "{" + strings.Join(l, "; ") + "}"
}

func toldVals(vals []api.Val) string {
	var l []string
	for _, v := range vals {
		s := fmt.Sprint(v.N)
		if len(v.B) > 0 {
			s += fmt.Sprintf("%q", v.B)
		}
		for _, m := range v.M {
			s += told(m)
		}
		l = append(l, s)
	}
	return "[" + strings.Join(l, ", ") + "]"
}

// shortly tells the beginning of what may be long.
func shortly(m api.Msg) string { return fmt.Sprintf("%.400s", told(m)) }

// What a message is by a type: not typed, typed but not normal, normal.
const (
	other = iota
	typed
	normal
)

func lookAt(t *testing.T, x api.Table, index int, m api.Msg, want int) {
	t.Helper()
	isTyped, e1 := model.Typed(x, index, m)
	isNormal, e2 := model.Normal(x, index, m)
	if e1 != api.OK || e2 != api.OK || isTyped != (want >= typed) || isNormal != (want == normal) {
		t.Errorf("type %d, %s: typed %v (error %d), normal %v (error %d); want %d of 0 other, 1 typed, 2 normal", index, shortly(m), isTyped, e1, isNormal, e2, want)
	}
	settled, e := model.Settle(x, index, m)
	if want == other && (e != api.ErrType || told(settled) != "{}") {
		t.Errorf("type %d, %s, that is not typed: Settle tells %s, error %d", index, shortly(m), shortly(settled), e)
	}
	if want != other && (e != api.OK || (told(settled) == told(m)) != (want == normal)) {
		t.Errorf("type %d, %s: Settle tells %s, error %d; want %d of 1 typed, 2 normal", index, shortly(m), shortly(settled), e, want)
	}
}

func lookAtMessage(t *testing.T, what string, got, want api.Msg) {
	t.Helper()
	if told(got) != told(want) {
		t.Errorf("%s: %s, want %s", what, shortly(got), shortly(want))
	}
}
