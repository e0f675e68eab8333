package pass_test

import (
	"strings"
	"testing"

	"cartouche/api"
	"cartouche/samples"
)

// way is a message on its way: two files, the message, and what it is there and back.
type way struct{ from, to, m, across, through string }

func look(t *testing.T, l []way) {
	t.Helper()
	for _, w := range l {
		from, to := described(t, w.from), described(t, w.to)
		lookAtWay(t, from, to, said(t, from, w.m), w.across, w.through)
	}
}

// TestP19_1NotKnown has fields that the other table does not know: at the top, ahead of, between and behind those that it knows, with other entries behind them.
func TestP19_1NotKnown(t *testing.T) {
	const x, rich = `message M { int32 x = 1; }`, `message M { int32 x = 1; string s = 4; fixed32 f = 5; sfixed64 d = 6; repeated bool p = 7; repeated string l = 8; map<bool, sint32> m = 9; M w = 10; oneof o { E e = 11; bytes b = 536870911; } } enum E { A = 0; B = 7; }`
	const all = `x : -1 s : "a" f : 7 d : -1 p [ true false ] l [ "b" "" ] m < false : -1 true : 6 > w { s : "c" } b : "\xff"`
	const row = `? 4 - 2 : "a" ? 5 - 5 : 7 ? 6 - 1 : 18446744073709551615 ? 7 - 2 : "\x01\x00" ? 8 - 2 : "b" ? 8 - 2 : "" ? 9 - 2 : "\x08\x00\x10\x01" ? 9 - 2 : "\x08\x01\x10\x0c" ? 10 - 2 : "\"\x01c" ? 536870911 - 2 : "\xff"`
	look(t, []way{
		{x, x, ``, ``, ``},
		{x, x, `x : 5`, `x : 5`, `x : 5`},
		{x, `message M { }`, `x : 5`, `? 1 - 0 : 5`, `x : 5`},
		{rich, x, all, `x : -1 ` + row, all},
		{rich, `message M { }`, all, `? 1 - 0 : 18446744073709551615 ` + row, all},
		{rich, rich, all, all, all},
		{rich, x, `e : B`, `? 11 - 0 : 7`, `e : B`},
		{`message M { int32 x = 1; int32 y = 2; int32 z = 3; }`, `message M { int32 y = 2; }`, `x : 1 y : 2 z : 3`, `y : 2 ? 1 - 0 : 1 ? 3 - 0 : 3`, `x : 1 y : 2 z : 3`},
		{`message M { int32 x = 1; int32 z = 3; }`, x, `x : 1 z : 3 ? 9 - 0 : 4 ? 3 - 2 : "q" ? 9 - 0 : 2`, `x : 1 ? 3 - 0 : 3 ? 9 - 0 : 4 ? 3 - 2 : "q" ? 9 - 0 : 2`, `x : 1 z : 3 ? 9 - 0 : 4 ? 3 - 2 : "q" ? 9 - 0 : 2`},
	})
}

// TestP19_1Within has them within other messages: of Optional fields, lists, maps, oneofs, and messages within these.
func TestP19_1Within(t *testing.T) {
	const around = `message M { A a = 1; repeated A l = 2; map<int32, A> m = 3; oneof o { A b = 4; string c = 5; } } `
	const most, less = around + `message A { int32 x = 1; int32 y = 2; A a = 3; M m = 4; }`, around + `message A { int32 x = 1; A a = 3; M m = 4; }`
	for _, row := range [][2]string{
		{`a { y : 1 }`, `a { ? 2 - 0 : 1 }`}, {`l [ { x : 1 } { y : 1 a { y : 2 } } ]`, `l [ { x : 1 } { a { ? 2 - 0 : 2 } ? 2 - 0 : 1 } ]`}, {`m < -1 : { } 5 : { x : 3 y : 4 } >`, `m < -1 : { } 5 : { x : 3 ? 2 - 0 : 4 } >`},
		{`b { y : 1 ? 9 - 0 : 1 }`, `b { ? 2 - 0 : 1 ? 9 - 0 : 1 }`}, {`a { m { l [ { m { b { x : 1 y : 2 } } } ] } }`, `a { m { l [ { m { b { x : 1 ? 2 - 0 : 2 } } } ] } }`}, {`c : "d" ? 2 - 0 : 1`, `c : "d" ? 2 - 0 : 1`},
	} {
		look(t, []way{{most, less, row[0], row[1], row[0]}, {less, most, row[1], row[0], row[1]}})
	}
}

// TestP19_1Names has fields and types that have other names, numbers in the table and neighbours on the other side: types are one by their Names, fields by their numbers.
func TestP19_1Names(t *testing.T) {
	look(t, []way{
		{`message M { int32 x = 1; E e = 2; } enum E { A = 0; B = 1; }`, `enum F { C = 0; D = 1; } message M { F f = 2; int32 y = 1; }`, `x : 5 e : B`, `y : 5 f : D`, `x : 5 e : B`},
		{`message A { int32 x = 1; } message M { A a = 1; }`, `message M { N n = 1; message A { string y = 2; } } message N { int32 z = 1; } message A { }`, `a { x : 3 }`, `n { z : 3 }`, `a { x : 3 }`},
		{`message M { message M { int32 x = 1; } M m = 1; }`, `message N { int32 y = 1; } message M { N n = 1; }`, `m { x : 1 }`, `n { y : 1 }`, `m { x : 1 }`},
	})
	from, to := described(t, `message M { int32 x = 1; message M { int32 x = 2; } }`), described(t, `message A { } message M { enum A { Z = 0; } message M { int32 y = 2; } int32 y = 1; }`)
	for _, name := range []string{"M", "M.M"} {
		number := from.Types[place(from, name)].Fields[0].Number
		m := with(msg(field(number, num(7))), varint(3-number, 4))
		if there := survives(t, from, to, name, m); told(there) != told(m) {
			t.Errorf("%s: %s; want %s", name, told(there), told(m))
		}
	}
	refused(t, "M.A", from, to, "M.A", msg(), api.ErrNone)
	refused(t, "A", from, to, "A", msg(), api.ErrNone)
}

// TestP19_1Kinds has fields whose kinds are others on the other side: what is read there may be another value, or nothing that is read.
func TestP19_1Kinds(t *testing.T) {
	of := func(kind string) string {
		return `message M { ` + kind + ` f = 1; } message A { int32 x = 1; } enum E { Z = 0; B = 3; }`
	}
	for _, row := range [][5]string{
		{"int32", "int64", `f : -1`, `f : -1`, `f : -1`}, {"int64", "int32", `f : 2147483647`, `f : 2147483647`, `f : 2147483647`}, {"int64", "int32", `f : 2147483648`, `error 7`, `error 7`},
		{"uint32", "bool", `f : 1`, `f : true`, `f : 1`}, {"uint32", "bool", `f : 2`, `error 7`, `error 7`}, {"bool", "uint64", `f : true`, `f : 1`, `f : true`}, {"int32", "sint32", `f : 1`, `f : -1`, `f : 1`},
		{"int32", "sint32", `f : -1`, `error 7`, `error 7`}, {"sint32", "int32", `f : -1`, `f : 1`, `f : -1`}, {"int64", "uint64", `f : -1`, `f : 18446744073709551615`, `f : -1`},
		{"E", "int32", `f : B`, `f : 3`, `f : B`}, {"int32", "E", `f : 3`, `f : B`, `f : 3`}, {"int32", "E", `f : 4`, `error 9`, `error 9`}, {"int32", "E", `f : -1`, `error 7`, `error 7`},
		{"float", "fixed32", `f : f3f800000`, `f : 1065353216`, `f : f3f800000`}, {"fixed32", "sfixed32", `f : 4294967295`, `f : -1`, `f : 4294967295`}, {"double", "sfixed64", `f : d8000000000000000`, `f : -9223372036854775808`, `f : d8000000000000000`},
		{"int32", "fixed32", `f : 5`, `? 1 - 0 : 5`, `f : 5`}, {"fixed64", "string", `f : 5`, `? 1 - 1 : 5`, `f : 5`}, {"string", "bytes", `f : "a"`, `f : "a"`, `f : "a"`}, {"bytes", "string", `f : "\xc3\xa4"`, `f : "\xc3\xa4"`, `f : "\xc3\xa4"`},
		{"bytes", "string", `f : "\xc3"`, `error 8`, `error 8`}, {"A", "bytes", `f { x : 5 }`, `f : "\x08\x05"`, `f { x : 5 }`}, {"A", "string", `f { x : 128 }`, `error 8`, `error 8`}, {"bytes", "A", `f : "\x08\x05"`, `f { x : 5 }`, `f : "\x08\x05"`},
		{"bytes", "A", `f : "\x08\x85\x00"`, `f { x : 5 }`, `f : "\x08\x05"`}, {"bytes", "A", `f : "\x08\x00"`, `f { x : 0 }`, `f : ""`}, {"bytes", "A", `f : "\x08"`, `error 3`, `error 3`},
		{"bytes", "A", `f : "\x08\xff\xff\xff\xff\xff\xff\xff\xff\xff\x02"`, `error 4`, `error 4`}, {"bytes", "A", `f : "\x00"`, `error 5`, `error 5`}, {"bytes", "A", `f : "\x0b"`, `error 6`, `error 6`}, {"bytes", "A", `f : "\x08\x80\x80\x80\x80\x08"`, `error 7`, `error 7`},
	} {
		look(t, []way{{of(row[0]), of(row[1]), row[2], row[3], row[4]}})
	}
}

// TestP19_1Labels has fields whose labels are others on the other side.
func TestP19_1Labels(t *testing.T) {
	of := func(field string) string { return `message M { ` + field + ` }` }
	const one, may, row, list = `int32 f = 1;`, `optional int32 f = 1;`, `repeated int32 f = 1;`, `repeated int32 f = 1 [packed = false];`
	const apart, oneof = `int32 a = 1; int32 b = 2;`, `oneof o { int32 a = 1; int32 b = 2; }`
	const pairs, parts = `map<int32, string> f = 1;`, `repeated P f = 1; message P { int32 k = 1; string v = 2; }`
	for _, l := range [][5]string{
		{one, may, `f : 5`, `f : 5`, `f : 5`}, {may, one, `f : 5`, `f : 5`, `f : 5`}, {may, one, `f : 0`, `f : 0`, ``}, {one, may, ``, ``, ``},
		{row, list, `f [ 1 2 ]`, `f [ 1 2 ]`, `f [ 1 2 ]`}, {list, row, `f [ 1 2 ]`, `f [ 1 2 ]`, `f [ 1 2 ]`}, {one, list, `f : 5`, `f [ 5 ]`, `f : 5`}, {one, row, `f : 5`, `f [ 5 ]`, `? 1 - 2 : "\x05"`},
		{list, one, `f [ 1 2 ]`, `f : 2`, `f [ 2 ]`}, {list, one, `f [ 1 0 ]`, `f : 0`, ``}, {row, one, `f [ 1 2 ]`, `? 1 - 2 : "\x01\x02"`, `f [ 1 2 ]`}, {list, may, `f [ 1 0 ]`, `f : 0`, `f [ 0 ]`},
		{apart, oneof, `a : 1 b : 2`, `b : 2`, `b : 2`}, {apart, oneof, `a : 1`, `a : 1`, `a : 1`}, {oneof, apart, `b : 2`, `b : 2`, `b : 2`}, {oneof, apart, `b : 0`, `b : 0`, ``},
		{pairs, parts, `f < 1 : "a" 2 : "" >`, `f [ { k : 1 v : "a" } { k : 2 v : "" } ]`, `f < 1 : "a" 2 : "" >`}, {parts, pairs, `f [ { k : 2 } { k : 1 v : "b" } { k : 2 v : "c" } ]`, `f < 1 : "b" 2 : "c" >`, `f [ { k : 1 v : "b" } { k : 2 v : "c" } ]`},
		{parts, pairs, `f [ { } ]`, `f < 0 : "" >`, `f [ { k : 0 v : "" } ]`}, {pairs, `repeated bytes f = 1;`, `f < 1 : "a" >`, `f [ "\x08\x01\x12\x01a" ]`, `f < 1 : "a" >`},
		{`repeated A f = 1; message A { int32 x = 1; repeated int32 l = 2; }`, `A f = 1; message A { int32 x = 1; repeated int32 l = 2; }`, `f [ { x : 1 l [ 1 ] } { x : 2 l [ 2 ] } ]`, `f { x : 2 l [ 1 2 ] }`, `f [ { x : 2 l [ 1 2 ] } ]`},
	} {
		look(t, []way{{of(l[0]), of(l[1]), l[2], l[3], l[4]}})
	}
}

// TestP19_1NotNormal has messages that are typed, but not normal: none of them comes back as it was.
func TestP19_1NotNormal(t *testing.T) {
	const file = `message M { int32 x = 1; repeated int32 l = 2; map<int32, int32> m = 3; M w = 4; }`
	for _, row := range [][2]string{
		{`x : 0`, ``}, {`l [ ]`, ``}, {`m < >`, ``}, {`w { x : 0 }`, `w { }`}, {`? 1 - 0 : 5`, `x : 5`}, {`x : 5 ? 1 - 0 : 6`, `x : 6`}, {`? 2 - 2 : "\x07" ? 2 - 0 : 8`, `l [ 7 8 ]`}, {`? 4 - 2 : "\x08\x01" ? 9 - 0 : 1`, `w { x : 1 } ? 9 - 0 : 1`},
	} {
		look(t, []way{{file, file, row[0], row[1], row[1]}})
	}
	look(t, []way{{file, file, `? 4 - 2 : "\x08"`, `error 3`, `error 3`}, {file, `message M { }`, `? 4 - 2 : "\x08"`, `? 4 - 2 : "\x08"`, `error 3`}, {file, `message M { string s = 1; }`, `x : 0 ? 1 - 2 : "a"`, `s : "a"`, `? 1 - 2 : "a"`}})
}

// TestP19_1Written has messages that are too deep or too big to be written: at the bounds all is well.
func TestP19_1Written(t *testing.T) {
	innermost := with(msg(field(1, num(5))), chunk(9, "a"))
	survives(t, en(), em(), "M", nested(3, api.MaxDepth-1, innermost))
	lookAtWay(t, en(), em(), nested(3, api.MaxDepth, innermost), `error 2`, `error 2`)
	of := func(count int) api.Msg { return msg(field(4, str(strings.Repeat("a", count)))) }
	survives(t, en(), em(), "M", of(api.MaxMessage-4))
	lookAtWay(t, en(), em(), of(api.MaxMessage-3), `error 1`, `error 1`)
	survives(t, em(), en(), "M", unknown(chunk(9, strings.Repeat("a", api.MaxMessage-4))))
	lookAtWay(t, em(), en(), unknown(chunk(9, strings.Repeat("a", api.MaxMessage-3))), `error 1`, `error 1`)
	both := nested(3, api.MaxDepth, of(api.MaxMessage))
	lookAtWay(t, en(), em(), both, `error 2`, `error 2`)
	unread := with(of(api.MaxMessage), chunk(3, "\x08"))
	lookAtWay(t, en(), en(), unread, `error 1`, `error 1`)
}

// TestP19_1Deeper has what becomes a message on the other side, or on the way back, and is too deep there.
func TestP19_1Deeper(t *testing.T) {
	from, to := described(t, `message M { M m = 1; optional bytes b = 2; }`), described(t, `message M { M m = 1; M b = 2; }`)
	b := msg(field(2, str("")))
	if there := survives(t, from, to, "M", nested(1, api.MaxDepth-2, b)); told(there) != told(nested(1, api.MaxDepth-2, nested(2, 1, msg()))) {
		t.Errorf("a message at the greatest depth: %s", shortly(there))
	}
	lookAtWay(t, from, to, nested(1, api.MaxDepth-1, b), `error 2`, `error 2`)
	// A map's entry is no message: what lacks in it is one, and is written.
	list, pairs := described(t, `message M { M m = 1; repeated P l = 2; } message P { Q q = 2; } message Q { }`), described(t, `message M { M m = 1; map<int32, Q> l = 2; } message Q { }`)
	lookAtWay(t, list, pairs, said(t, list, `l [ { } ]`), `l < 0 : { } >`, `l [ { q { } ? 1 - 0 : 0 } ]`)
	deep := nested(1, api.MaxDepth-2, msg(field(2, in(msg()))))
	want := strings.Repeat("m { ", api.MaxDepth-2) + `l < 0 : { } >` + strings.Repeat(" }", api.MaxDepth-2)
	lookAtWay(t, list, pairs, deep, want, `error 2`)
}

// TestP19_1Bigger has what the other side writes with more bytes: the way back ends there.
func TestP19_1Bigger(t *testing.T) {
	row, list := described(t, `message M { repeated fixed32 l = 1; }`), described(t, `message M { repeated fixed32 l = 1 [packed = false]; }`)
	for _, count := range []int{api.MaxMessage / 5, api.MaxMessage/5 + 1, (api.MaxMessage - 4) / 4} {
		m := msg(field(1, make([]api.Val, count)...))
		there, want := ask(row, list, "M", m), api.OK
		if 5*count > api.MaxMessage {
			want = api.ErrTooBig
		}
		if there.ofAcross != api.OK || told(there.across) != told(m) || there.ofThrough != want || there.survives != (want == api.OK) || there.ofSurvives != api.OK {
			t.Errorf("%d values: errors %d, survives: %v", count, there.errors(), there.survives)
		}
		there.lookAtZero(t)
	}
	lookAtWay(t, row, list, msg(field(1, make([]api.Val, (api.MaxMessage-4)/4+1)...)), `error 1`, `error 1`)
}

// TestP19_1Refused has what all calls refuse: each wrong table on either side, names that are not a message's in both, messages that are not typed.
func TestP19_1Refused(t *testing.T) {
	fine := msg(field(1, num(1)))
	for _, wrong := range samples.WrongTables() {
		for _, name := range []string{"M", "E", "N", ""} {
			refused(t, wrong.What+", first", wrong.Table, em(), name, fine, api.ErrArg)
			refused(t, wrong.What+", second", em(), wrong.Table, name, fine, api.ErrArg)
			refused(t, wrong.What+", both", wrong.Table, wrong.Table, name, fine, api.ErrArg)
		}
	}
	other := described(t, `enum E { A = 0; } message N { } enum M { A = 0; } message O { message M { } }`)
	for _, name := range []string{"M", "N", "O", "O.M", "E", "A", "x", "", "m", "M.", ".M", "M.M", " M", "MM"} {
		refused(t, name+" of one alone", em(), other, name, fine, api.ErrNone)
		refused(t, name+" of one alone, the other way", other, em(), name, fine, api.ErrNone)
		refused(t, name+" of none", em(), api.Table{}, name, fine, api.ErrNone)
		refused(t, name+" of none, the other way", api.Table{}, em(), name, fine, api.ErrNone)
	}
	refused(t, "an enum's in both", em(), em(), "E", fine, api.ErrNone)
	for _, m := range []api.Msg{msg(field(9)), msg(field(1)), msg(field(1, num(1), num(2))), msg(field(1, num(1<<31))), msg(field(1, str("a"))), msg(field(2), field(1, num(1))), unknown(varint(0, 1)), nested(3, 5, msg(field(9))), nested(3, 100, msg(field(9)))} {
		refused(t, "not typed", em(), en(), "M", m, api.ErrType)
	}
	refused(t, "typed by the second one", em(), en(), "M", msg(field(4, str("a"))), api.ErrType)
}
