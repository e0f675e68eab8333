package pass_test

import (
	"slices"
	"strings"
	"testing"

	"cartouche/api"
)

// TestP19_2Top has entries at the top: whatever their wire kinds are, their numbers count, and only those of fields.
func TestP19_2Top(t *testing.T) {
	const old, new = `message M { int32 x = 1; M m = 3; }`, `message M { int32 x = 1; string s = 4; M m = 3; oneof o { bytes b = 536870911; } map<int32, int32> p = 10; reserved 6 to 8; }`
	for _, row := range []struct {
		m    string
		want bool
	}{
		{``, false}, {`x : 5 m { }`, false}, {`? 4 - 2 : "a"`, true}, {`? 4 - 0 : 5`, true}, {`? 4 - 1 : 5`, true}, {`? 4 - 5 : 5`, true}, {`? 4 - 2 : "\xff"`, true}, {`? 10 - 0 : 0`, true}, {`? 536870911 - 2 : ""`, true},
		{`? 5 - 2 : ""`, false}, {`? 2 - 0 : 4`, false}, {`? 3 - 0 : 4`, true}, {`? 1 - 2 : "a"`, true}, {`? 6 - 0 : 1 ? 7 - 0 : 1 ? 8 - 0 : 1`, false}, {`? 536870910 - 0 : 4`, false}, {`? 9 - 0 : 1 ? 11 - 0 : 1`, false},
		{`? 9 - 0 : 1 ? 2 - 0 : 1 ? 4 - 0 : 1`, true}, {`? 4 - 0 : 1 ? 9 - 0 : 1`, true}, {`? 9 - 0 : 1 ? 4 - 0 : 1 ? 2 - 0 : 1`, true}, {`x : 0 ? 1 - 0 : 5`, true}, {`? 9 - 2 : "\x20\x01"`, false}, {`? 2 - 2 : "\"\x01a"`, false},
	} {
		x := described(t, old)
		lookAtClash(t, x, described(t, new), said(t, x, row.m), row.want)
		lookAtClash(t, x, described(t, `message M { }`), said(t, x, row.m), false)
	}
	lookAtClash(t, em(), em(), unknown(chunk(1, "a")), true)
	lookAtClash(t, em(), em(), unknown(chunk(4, "a")), false)
}

// TestP19_2Within has entries within other messages: each type is asked by its own Name, wherever it stands in the new table, and whatever type the new field has.
func TestP19_2Within(t *testing.T) {
	const around = `message M { A a = 1; repeated A l = 2; map<int32, A> m = 3; oneof o { A b = 4; string c = 5; } }`
	old := described(t, around+` message A { int32 x = 1; A a = 3; M m = 4; }`)
	fresh := described(t, `message Other { int32 z = 8; } message A { int32 y = 6; int32 x = 1; A a = 3; M m = 4; } `+around)
	turned := described(t, `message B { int32 y = 6; } message A { int32 z = 7; } message M { B a = 1; repeated B l = 2; map<int32, B> m = 3; oneof o { B b = 4; } }`)
	for _, row := range []string{
		`a { ? 6 - 0 : 1 }`, `a { x : 1 ? 8 - 0 : 1 ? 6 - 2 : "" }`, `l [ { ? 6 - 0 : 1 } ]`, `l [ { } { x : 1 } { ? 6 - 5 : 1 } { } ]`, `m < -1 : { ? 6 - 0 : 1 } >`, `m < 1 : { } 2 : { ? 8 - 0 : 1 } 3 : { ? 6 - 0 : 1 } >`, `b { ? 6 - 0 : 1 }`,
		`a { a { a { ? 6 - 0 : 1 } } }`, `a { m { b { m { l [ { } { m { m < 0 : { a { ? 6 - 0 : 1 } } > } } ] } } } }`, `l [ { } ] m < 5 : { } > b { a { ? 6 - 0 : 1 } }`,
	} {
		m := said(t, old, row)
		lookAtClash(t, old, fresh, m, true)
		lookAtClash(t, old, turned, m, false)
		lookAtClash(t, old, described(t, around+` message A { int32 x = 1; A a = 3; M m = 4; reserved 6; }`), m, false)
		other := said(t, old, strings.ReplaceAll(row, "? 6 -", "? 7 -"))
		lookAtClash(t, old, fresh, other, false)
		lookAtClash(t, old, turned, other, true)
	}
	for _, row := range []string{`a { a { ? 5 - 0 : 1 } }`, `a { m { ? 6 - 0 : 1 } }`, `? 6 - 0 : 1`, `? 6 - 2 : "" a { ? 2 - 0 : 1 } l [ { ? 2 - 0 : 1 } ]`} {
		lookAtClash(t, old, fresh, said(t, old, row), false)
	}
	for _, row := range []string{`a { m { ? 5 - 0 : 1 } }`, `a { m { a { } ? 1 - 0 : 1 } }`, `a { ? 4 - 0 : 1 }`} {
		lookAtClash(t, old, fresh, said(t, old, row), true)
	}
}

// TestP19_2Lost has types within that the new table has not, or has as an enum: they do not clash, but what is within them may.
func TestP19_2Lost(t *testing.T) {
	old := described(t, `message M { A a = 1; repeated A l = 2; map<int32, A> m = 3; oneof o { A b = 4; } } message A { B b = 1; A a = 2; M m = 3; message B { int32 x = 1; } }`)
	for _, a := range []string{``, `enum A { Z = 0; Y = 9; }`, `message C { int32 x = 9; } enum A { Z = 0; }`, `message B { int32 x = 9; }`, `message M_ { message A { int32 x = 9; } }`} {
		lost := described(t, `message M { string s = 9; } `+a)
		for _, row := range []string{`a { ? 9 - 0 : 1 }`, `l [ { ? 9 - 0 : 1 } ]`, `m < 0 : { ? 9 - 0 : 1 } >`, `b { ? 9 - 0 : 1 ? 1 - 0 : 1 }`, `a { b { ? 9 - 0 : 1 } a { ? 9 - 0 : 1 } }`, `? 4 - 0 : 1`, `a { m { ? 4 - 0 : 1 } }`} {
			lookAtClash(t, old, lost, said(t, old, row), false)
		}
		for _, row := range []string{`? 9 - 0 : 1`, `a { m { ? 9 - 0 : 1 } }`, `l [ { } { a { m { ? 9 - 0 : 1 } } } ]`, `m < 0 : { m { ? 9 - 0 : 1 } } >`, `b { m { ? 9 - 0 : 1 } ? 9 - 0 : 1 }`} {
			lookAtClash(t, old, lost, said(t, old, row), true)
		}
	}
	inner := described(t, `message M { } message A { message B { int32 y = 9; } }`)
	lookAtClash(t, old, inner, said(t, old, `a { b { ? 9 - 0 : 1 } }`), true)
	lookAtClash(t, old, inner, said(t, old, `a { b { ? 1 - 2 : "" } ? 9 - 0 : 1 }`), false)
}

// TestP19_2Unwritten has messages that can't be written: Clash does not write them.
func TestP19_2Unwritten(t *testing.T) {
	const depth = 1<<16 - 1
	for _, around := range []int{api.MaxDepth - 1, api.MaxDepth, depth} {
		lookAtClash(t, em(), en(), nested(3, around, unknown(varint(4, 1))), true)
		lookAtClash(t, em(), en(), nested(3, around, unknown(varint(5, 1))), false)
	}
	big := chunk(5, strings.Repeat("a", api.MaxMessage))
	lookAtClash(t, em(), en(), unknown(big), false)
	lookAtClash(t, em(), en(), unknown(big, varint(4, 1)), true)
	lookAtClash(t, em(), en(), unknown(slices.Repeat([]api.Entry{varint(5, 1)}, 1<<18)...), false)
}
