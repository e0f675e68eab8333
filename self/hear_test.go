package self_test

import (
	"math"
	"reflect"
	"slices"
	"strings"
	"testing"

	"cartouche/api"
	"cartouche/samples"
)

func TestP12_2Examples(t *testing.T) {
	lookAtHeard(t, msg(), api.Table{})
	lookAtHeard(t, msg(field(1)), api.Table{})
	lookAtUnheard(t, msg(field(1, in(msg()))), api.ErrArg)
	lookAtUnheard(t, msg(field(2, num(1))), api.ErrType)
	lookAtHeard(t, msg(field(1, in(msg(field(1, str("E")), field(2, num(1)), field(5, in(msg(field(1, str("A"))))))))), tableOf(em().Types[0]))
}

// around tells a message of Table with one of Type; inside, with one of what a list of Type holds.
func around(l ...api.Field) api.Msg { return msg(field(1, in(msg(l...)))) }

func inside(number int, l ...api.Field) api.Msg {
	return around(field(1, str("M")), field(number, in(msg(l...))))
}

// TestP12_2Untyped has messages that Table does not type, at each depth. (That these are the words of chapter 8, package model tests.)
func TestP12_2Untyped(t *testing.T) {
	for _, m := range []api.Msg{
		msg(field(0)), msg(field(-1)), msg(field(2)), msg(field(math.MaxInt, num(1))), msg(field(1), field(1)), msg(field(2), field(1)),
		msg(field(1, num(1))), msg(field(1, str("a"))), msg(field(1, in())), msg(field(1, in(msg(), msg()))), msg(field(1, api.Val{})), msg(field(1, api.Val{N: 1, M: []api.Msg{{}}})), msg(samples.Pairs(1, num(1), in(msg()))),
		samples.Unknown(varint(0, 1)), samples.Unknown(varint(api.MaxNumber+1, 1)), samples.Unknown(api.Entry{Number: 2, Kind: 3}), samples.Unknown(api.Entry{Number: 2, Kind: api.Fix32, N: 1 << 32}),
		around(field(1)), around(field(1, str("M"), str("M"))), around(field(1, num(1))), around(field(1, str("\xff"))), around(field(1, str("M\xc3"))), around(field(1, api.Val{N: 1, B: []byte("M")})), around(field(7, num(1))), around(field(2, num(1)), field(1, str("M"))),
		around(field(2, num(2))), around(field(2, num(-1))), around(field(2, str("a"))), around(field(3, num(1))), around(field(3, in())), around(field(4, str("\xff"))), around(field(4, num(1))), around(field(4, str("o"), in(msg()))),
		inside(3, field(1, str("\xff"))), inside(3, field(2, num(1<<32))), inside(3, field(2, num(-1))), inside(3, field(7, num(1<<63-1))), inside(3, field(8, num(1))), inside(3, field(3)), inside(3, field(3, num(1), num(1))), inside(3, field(4, str("a"))), inside(3, field(5, in(msg()))),
		inside(5, field(1, str("\x80"))), inside(5, field(2, num(1<<32))), inside(5, field(3, num(1))), inside(6, field(1, num(1<<32))), inside(6, field(2, num(-1))), inside(6, field(1, str("a"))), inside(6, field(3, num(1))),
		samples.Nested(1, 4, msg()), samples.Nested(1, 40, msg()), inside(3, field(1, in(msg()))),
	} {
		lookAtUnheard(t, m, api.ErrType)
		// a type ahead that is not good is the lesser fault; so is one behind
		if len(m.Fields) == 1 && m.Fields[0].Number == 1 && len(m.Fields[0].Keys) == 0 {
			lookAtUnheard(t, msg(field(1, append([]api.Val{in(msg())}, m.Fields[0].Vals...)...)), api.ErrType)
			lookAtUnheard(t, msg(field(1, append(slices.Clone(m.Fields[0].Vals), in(msg()))...)), api.ErrType)
		}
	}
}

// TestP12_2NotGood has messages of Table that say tables that are not good.
func TestP12_2NotGood(t *testing.T) {
	for _, s := range []string{
		`types [ { } ]`, `types [ { name : "" } ]`, `types [ { name : "1" } ]`, `types [ { name : "a b" } ]`, `types [ { name : "\xc3\xa9" } ]`, `types [ { name : "A.B" } ]`, `types [ { name : "A" } { name : "A" } ]`, `types [ { enum : true symbols [ { name : "A" } ] } ]`,
		`types [ { name : "E" enum : true } ]`, `types [ { name : "E" enum : true symbols [ { } ] } ]`, `types [ { name : "E" enum : true symbols [ { name : "A" number : 1 } ] } ]`, `types [ { name : "E" enum : true symbols [ { name : "A" } { name : "B" } ] } ]`,
		`types [ { name : "E" enum : true symbols [ { name : "A" } { name : "B" number : 2147483648 } ] } ]`, `types [ { name : "E" symbols [ { name : "A" } ] } ]`, `types [ { name : "E" enum : true symbols [ { name : "A" } ] reserved [ { low : 1 high : 1 } ] } ]`,
		`types [ { name : "M" fields [ { } ] } ]`, `types [ { name : "M" fields [ { number : 1 kind : 1 } ] } ]`, `types [ { name : "M" fields [ { name : "f" kind : 1 } ] } ]`, `types [ { name : "M" fields [ { name : "f" number : 1 } ] } ]`,
		`types [ { name : "M" fields [ { name : "f" number : 1 kind : 18 } ] } ]`, `types [ { name : "M" fields [ { name : "f" number : 1 kind : 257 } ] } ]`, `types [ { name : "M" fields [ { name : "f" number : 1 kind : 4294967295 } ] } ]`, `types [ { name : "M" fields [ { name : "f" number : 536870912 kind : 1 } ] } ]`,
		`types [ { name : "M" fields [ { name : "f" number : 4294967295 kind : 1 } ] } ]`, `types [ { name : "M" fields [ { name : "f" number : 1 kind : 1 ref : 1 } ] } ]`, `types [ { name : "M" fields [ { name : "f" number : 1 kind : 17 label : 1 ref : 4294967295 } ] } ]`, `types [ { name : "M" fields [ { name : "f" number : 1 kind : 17 } ] } ]`,
		`types [ { name : "M" fields [ { name : "f" number : 1 kind : 1 label : 6 } ] } ]`, `types [ { name : "M" fields [ { name : "f" number : 1 kind : 1 label : 4 } ] } ]`, `types [ { name : "M" fields [ { name : "f" number : 1 kind : 1 label : 4 oneof : 1 } ] oneofs [ "o" ] } ]`, `types [ { name : "M" fields [ { name : "f" number : 1 kind : 1 oneof : 1 } ] } ]`,
		`types [ { name : "M" fields [ { name : "f" number : 1 kind : 1 label : 5 } ] } ]`, `types [ { name : "M" fields [ { name : "f" number : 1 kind : 1 label : 5 key : 4294967295 } ] } ]`, `types [ { name : "M" fields [ { name : "f" number : 1 kind : 1 key : 1 } ] } ]`, `types [ { name : "M" oneofs [ "o" ] } ]`, `types [ { name : "M" oneofs [ "" ] } ]`,
		`types [ { name : "M" reserved [ { } ] } ]`, `types [ { name : "M" reserved [ { low : 1 } ] } ]`, `types [ { name : "M" reserved [ { high : 1 } ] } ]`, `types [ { name : "M" reserved [ { low : 1 high : 536870912 } ] } ]`, `types [ { name : "M" reserved [ { low : 1 high : 4294967295 } ] } ]`, `types [ { name : "M" reserved [ { low : 4294967295 high : 4294967295 } ] } ]`,
		"types [ " + strings.Repeat(`{ name : "M" } `, 129) + "]",
	} {
		lookAtUnheard(t, read(t, s), api.ErrArg)
	}
	for _, w := range samples.WrongTables() {
		want := api.ErrArg
		m := saidWhole(0, reflect.ValueOf(w.Table))
		samples.Touch{Bits: func(n *uint64) {
			if *n >= 1<<32 { // what is below 0 has no place in a Uint32
				want = api.ErrType
			}
		}}.Message(&m)
		lookAtUnheard(t, m, want)
	}
	bare := samples.Full()
	for i := range bare.Types {
		bare.Types[i].Fields = nil
	}
	lookAtHeard(t, saidWhole(0, reflect.ValueOf(bare)), bare)
	bare.Types = append(bare.Types, messageOf("N"))
	lookAtUnheard(t, saidWhole(0, reflect.ValueOf(bare)), api.ErrArg)
}

// TestP12_2Lacking has what is a default told, not told, and lists that are there without values: all is one.
func TestP12_2Lacking(t *testing.T) {
	for _, row := range []struct{ s, whole string }{
		{``, `types [ ]`},
		{`types [ { name : "M" } ]`, `types [ { name : "M" enum : false fields [ ] oneofs [ ] symbols [ ] reserved [ ] } ]`},
		{`types [ { name : "E" enum : true symbols [ { name : "A" } ] } ]`, `types [ { reserved [ ] symbols [ { number : 0 name : "A" } ] oneofs [ ] fields [ ] enum : true name : "E" } ]`},
		{`types [ { name : "M" fields [ { name : "f" number : 1 kind : 1 } ] } ]`, `types [ { name : "M" fields [ { name : "f" number : 1 kind : 1 ref : 0 label : 0 oneof : 0 key : 0 } ] } ]`},
	} {
		x, e := heard(read(t, row.s))
		if e != api.OK {
			t.Fatalf("%s: error %d", row.s, e)
		}
		lookAtHeard(t, read(t, row.s), x)
		lookAtHeard(t, read(t, row.whole), x)
	}
	lookAtHeard(t, read(t, `types [ { name : "M" fields [ { name : "f" number : 1 kind : 1 } ] } ]`), oneOf(messageOf("", api.FieldType{Name: "f", Number: 1, Kind: api.Bool})))
	lookAtHeard(t, saidWhole(0, reflect.ValueOf(all())), all())
}

// TestP12_2Unknown has entries at each depth, among them some that a field would take: all are passed over.
func TestP12_2Unknown(t *testing.T) {
	entries := []api.Entry{varint(9, 1), chunk(99, "\xff\xff"), chunk(1, "Z"), varint(1, 1), varint(2, 1), varint(3, 9), chunk(5, "\x0a\x01B"), {Number: 1, Kind: api.Fix32, N: 7}, {Number: api.MaxNumber, Kind: api.Fix64, N: math.MaxUint64}}
	for _, x := range []api.Table{{}, em(), all(), meta()} {
		for depth := range 4 {
			whole := saidWhole(0, reflect.ValueOf(x))
			laid := 0
			lay(&whole, depth, func(m *api.Msg) { m.Unknown, laid = entries, laid+1 })
			if laid == 0 && depth < 3 && len(x.Types) > 0 {
				t.Errorf("no message at the depth %d", depth)
			}
			lookAtHeard(t, whole, x)
		}
		m := saidWhole(0, reflect.ValueOf(x))
		for depth := range 3 {
			lay(&m, depth, func(m *api.Msg) { m.Unknown = entries })
		}
		lookAtHeard(t, m, x)
	}
	for depth := range 3 { // what is no entry is not typed
		m := saidWhole(0, reflect.ValueOf(all()))
		lay(&m, depth, func(m *api.Msg) { m.Unknown = []api.Entry{varint(9, 1), {Number: 9, Kind: 4}} })
		lookAtUnheard(t, m, api.ErrType)
	}
}

// lay does something at each message that stands so many within one another.
func lay(m *api.Msg, depth int, do func(*api.Msg)) {
	if depth == 0 {
		do(m)
		return
	}
	for _, f := range m.Fields {
		for _, v := range f.Vals {
			for i := range v.M {
				lay(&v.M[i], depth-1, do)
			}
		}
	}
}

// TestP12_2Numbers has the greatest numbers that a good table takes, in each place.
func TestP12_2Numbers(t *testing.T) {
	x := tableOf(
		api.Type{Name: "E", Enum: true, Symbols: []api.Symbol{{Name: "A"}, {Name: "B", Number: 1<<31 - 1}}},
		api.Type{Name: "M", Fields: []api.FieldType{{Name: "f", Number: api.MaxNumber, Kind: api.Message, Ref: 127, Label: api.Map, Key: api.String}}, Reserved: []api.Range{{Low: api.MaxNumber - 2, High: api.MaxNumber - 1}}},
	)
	for i := range api.MaxTypes - 2 {
		y := messageOf("M" + string(rune('a'+i/26)) + string(rune('a'+i%26)))
		for j := range api.MaxFields * (i % 2) {
			y.Oneofs = append(y.Oneofs, "o"+string(rune('a'+j/26))+string(rune('a'+j%26)))
			y.Fields = append(y.Fields, api.FieldType{Name: "f" + y.Oneofs[j], Number: j + 1, Kind: api.Bool, Label: api.Member, Oneof: j})
		}
		x.Types = append(x.Types, y)
	}
	m, e := said(x)
	if e != api.OK {
		t.Fatalf("error %d", e)
	}
	lookAtHeard(t, m, x)
	lookAtSaid(t, x, m)
}
