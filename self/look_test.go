package self_test

import (
	"fmt"
	"testing"

	"cartouche/api"
	"cartouche/model"
	"cartouche/samples"
	"cartouche/self"
	"cartouche/text"
)

var (
	em, wide       = samples.Small, samples.Wide
	num, str, in   = samples.Num, samples.Str, samples.In
	msg, field     = samples.Msg, samples.Field
	chunk, varint  = samples.Chunk, samples.Varint
	told, shortly  = samples.Told, samples.Shortly
	same, tableOf  = samples.SameTable, samples.Table
	messageOf, few = samples.Message, samples.Symbols
)

// meta is the table of tables, by the chapter's own table.
func meta() api.Table {
	return api.Table{Types: []api.Type{
		{Name: "Table", Fields: []api.FieldType{
			{Name: "types", Number: 1, Kind: api.Message, Ref: 1, Label: api.Repeated},
		}},
		{Name: "Type", Fields: []api.FieldType{
			{Name: "name", Number: 1, Kind: api.String}, {Name: "enum", Number: 2, Kind: api.Bool}, {Name: "fields", Number: 3, Kind: api.Message, Ref: 2, Label: api.Repeated},
			{Name: "oneofs", Number: 4, Kind: api.String, Label: api.Repeated}, {Name: "symbols", Number: 5, Kind: api.Message, Ref: 3, Label: api.Repeated}, {Name: "reserved", Number: 6, Kind: api.Message, Ref: 4, Label: api.Repeated},
		}},
		{Name: "Field", Fields: []api.FieldType{
			{Name: "name", Number: 1, Kind: api.String}, {Name: "number", Number: 2, Kind: api.Uint32}, {Name: "kind", Number: 3, Kind: api.Uint32}, {Name: "ref", Number: 4, Kind: api.Uint32},
			{Name: "label", Number: 5, Kind: api.Uint32}, {Name: "oneof", Number: 6, Kind: api.Uint32}, {Name: "key", Number: 7, Kind: api.Uint32},
		}},
		{Name: "Symbol", Fields: []api.FieldType{{Name: "name", Number: 1, Kind: api.String}, {Name: "number", Number: 2, Kind: api.Uint32}}},
		{Name: "Range", Fields: []api.FieldType{{Name: "low", Number: 1, Kind: api.Uint32}, {Name: "high", Number: 2, Kind: api.Uint32}}},
	}}
}

// brief tells the beginning of what may be long.
func brief(x any) string {
	s := fmt.Sprint(x)
	return s[:min(len(s), 400)]
}

// read tells the message of Table that a text says.
func read(t *testing.T, s string) api.Msg {
	t.Helper()
	m, f := text.Parse(meta(), 0, s)
	if f != (api.Fault{}) {
		t.Fatalf("%s: fault %v", s, f)
	}
	return m
}

// all is a table in which each number and each list is more than its default somewhere.
func all() api.Table {
	x := wide()
	x.Types[2].Reserved = append(x.Types[2].Reserved, api.Range{Low: 11, High: 11}, api.Range{Low: 400, High: api.MaxNumber})
	x.Types = append(x.Types, messageOf("W.Inner"), api.Type{Name: "W.Inner.E", Enum: true, Symbols: few().Symbols})
	x.Types[1].Fields[2].Ref = 4
	return x
}

func lookAtSaid(t *testing.T, x api.Table, want api.Msg) {
	t.Helper()
	got, e := self.ToMsg(x)
	if e != api.OK || told(got) != told(want) {
		t.Errorf("ToMsg(%s): %s, error %d; want %s", brief(x), shortly(got), e, shortly(want))
	}
	if ok, e := model.Normal(meta(), 0, got); !ok || e != api.OK {
		t.Errorf("ToMsg(%s): %s is not normal", brief(x), shortly(got))
	}
}

// lookAtUnsaid sees that a table is refused by both calls that take one.
func lookAtUnsaid(t *testing.T, what string, x api.Table) {
	t.Helper()
	if m, e := self.ToMsg(x); e != api.ErrArg || told(m) != "{}" {
		t.Errorf("%s: ToMsg: %s, error %d", what, shortly(m), e)
	}
	if b, e := self.Pack(x); e != api.ErrArg || len(b) > 0 {
		t.Errorf("%s: Pack: %d bytes, error %d", what, len(b), e)
	}
}

func lookAtHeard(t *testing.T, m api.Msg, want api.Table) {
	t.Helper()
	if got, e := self.FromMsg(m); e != api.OK || !same(got, want) {
		t.Errorf("FromMsg(%s): %s, error %d; want %s", shortly(m), brief(got), e, brief(want))
	}
}

func lookAtUnheard(t *testing.T, m api.Msg, want api.Errno) {
	t.Helper()
	if got, e := self.FromMsg(m); e != want || len(got.Types) > 0 {
		t.Errorf("FromMsg(%s): %s, error %d; want error %d", shortly(m), brief(got), e, want)
	}
}

func lookAtRead(t *testing.T, b []byte, want api.Table) {
	t.Helper()
	if got, e := self.Unpack(b); e != api.OK || !same(got, want) {
		t.Errorf("Unpack(%s): %s, error %d; want %s", brief(b), brief(got), e, brief(want))
	}
}

func lookAtFault(t *testing.T, b []byte, want api.Errno) {
	t.Helper()
	if got, e := self.Unpack(b); e != want || len(got.Types) > 0 {
		t.Errorf("Unpack(%s): %s, error %d; want error %d", brief(b), brief(got), e, want)
	}
}
