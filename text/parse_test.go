package text_test

import (
	"fmt"
	"math"
	"math/big"
	"slices"
	"strings"
	"testing"

	"cartouche/api"
	"cartouche/samples"
)

func TestP11_2Examples(t *testing.T) {
	lookAtRead(t, em(), 1, "m{x:5}l[]", msg(field(2), field(3, in(msg(field(1, num(5)))))))
	for _, row := range []struct {
		s    string
		want api.Fault
	}{
		{"x:5 x:6", api.Fault{Code: api.ErrDup, Line: 1, Col: 5}}, {"y:1", api.Fault{Code: api.ErrName, Line: 1, Col: 1}}, {"x:99999999999", api.Fault{Code: api.ErrRange, Line: 1, Col: 3}},
		{"x 5", api.Fault{Code: api.ErrSyntax, Line: 1, Col: 3}}, {"m{", api.Fault{Code: api.ErrSyntax, Line: 1, Col: 3}}, {"? 0 - 0 : 1", api.Fault{Code: api.ErrNumber, Line: 1, Col: 3}}, {"l : 1", api.Fault{Code: api.ErrSyntax, Line: 1, Col: 3}},
	} {
		lookAtFault(t, em(), 1, row.s, row.want)
	}
}

// spellings tells ways in which a value may be written, with blanks and comments around it too.
func spellings(kind int, v api.Val) []string {
	s := spelt(kind, v)
	return append(bare(kind, v), " "+s+"\n", "/* */"+s+"// x\n")
}

// bare tells those that begin with the value's first word.
func bare(kind int, v api.Val) []string {
	s := spelt(kind, v)
	switch kind {
	case api.Bool, api.Enum:
		return []string{s}
	case api.Message:
		return []string{s, strings.ReplaceAll(s, " ", ""), strings.ReplaceAll(s, " ", "\t\r\n")}
	case api.Float, api.Double:
		return []string{s, s[:1] + strings.ToUpper(s[1:]), s[:2] + strings.ToUpper(s[2:])}
	case api.String, api.Bytes:
		return []string{s, `"` + hexed(v.B, `\x%02x`) + `"`, `"` + hexed(v.B, `\x%02X`) + `"`}
	}
	n := big.NewInt(int64(v.N))
	if !hasMinus(kind) {
		n.SetUint64(v.N)
	}
	l := numerals(n)
	if hasMinus(kind) && v.N == 0 {
		l = append(l, "-0", "- 0x0", "-00")
	}
	return l
}

func hexed(b []byte, form string) string {
	var s strings.Builder
	for _, c := range b {
		fmt.Fprintf(&s, form, c)
	}
	return s.String()
}

// TestP11_2One has each kind with each label of one value.
func TestP11_2One(t *testing.T) {
	for kind := api.Bool; kind <= api.Message; kind++ {
		good, _ := values(kind)
		for _, label := range oneLabels {
			if !samples.CanBe(kind, label) {
				continue
			}
			x, ahead := single(kind, label, 0), "f:"
			if kind == api.Message {
				ahead = "f"
			}
			for _, v := range good {
				for _, s := range spellings(kind, v) {
					lookAtRead(t, x, around, ahead+s, msg(field(number, v)))
					lookAtRead(t, x, around, "?1-0:1 "+ahead+s+"?2-0:1", with(msg(field(number, v)), varint(1, 1), varint(2, 1)))
				}
			}
		}
	}
}

// TestP11_2Lists has each kind with each label of lists.
func TestP11_2Lists(t *testing.T) {
	for kind := api.Bool; kind <= api.Message; kind++ {
		good, _ := values(kind)
		for _, label := range listLabels {
			if !samples.CanBe(kind, label) {
				continue
			}
			x := single(kind, label, 0)
			lookAtRead(t, x, around, "f[]", msg(field(number)))
			for _, v := range good {
				for _, s := range spellings(kind, v) {
					lookAtRead(t, x, around, "f["+s+"]", msg(field(number, v)))
					lookAtRead(t, x, around, "f["+s+" "+s+" "+s+"]", msg(field(number, v, v, v)))
				}
			}
		}
	}
}

// TestP11_2Maps has each kind of keys with each kind of values, the keys in order and out of it.
func TestP11_2Maps(t *testing.T) {
	m := samples.New(111)
	for _, key := range samples.KeyKinds() {
		keys := samples.Rising(key)
		for kind := api.Bool; kind <= api.Message; kind++ {
			good, _ := values(kind)
			x := single(kind, api.Map, key)
			lookAtRead(t, x, around, "f<>", msg(pairs(number)))
			var f api.Field
			f.Number = number
			var l []string
			for i, k := range keys {
				v := good[i%len(good)]
				f.Keys, f.Vals = append(f.Keys, k), append(f.Vals, v)
				s := samples.Pick(m, spellings(key, k)...) + ":" + samples.Pick(m, spellings(kind, v)...)
				l = append(l, s)
				lookAtRead(t, x, around, "f<"+s+">", msg(pairs(number, k, v)))
			}
			for range 5 {
				lookAtRead(t, x, around, "f<"+strings.Join(l, " ")+">", msg(f))
				i, j := m.Below(len(l)), m.Below(len(l))
				l[i], l[j] = l[j], l[i]
			}
			slices.Reverse(l)
			lookAtRead(t, x, around, "f<"+strings.Join(l, "\n")+">", msg(f))
		}
	}
}

// TestP11_2Order sees that fields may stand in any order, entries that are not known among them, and keep theirs.
func TestP11_2Order(t *testing.T) {
	want := with(msg(field(1, num(1)), field(2, num(2)), field(3, in(with(msg(field(1, num(3)), field(2)), varint(8, 1))))), varint(9, 1), chunk(1, "a"), varint(9, 0))
	for _, s := range []string{
		`x:1 l[2] m{x:3 l[] ?8-0:1} ?9-0:1 ?1-2:"a" ?9-0:0`,
		`?9-0:1 m{?8-0:1 l[] x:3} ?1-2:"a" l[2] ?9-0:0 x:1`,
		`?9-0:1?1-2:"a"?9-0:0 l[2]m{l[]x:3?8-0:1}x:1`,
		"?\n9\n-\n0\n:\n1 ? 0x1 - 0x2 : \"\\x61\" l [ 0x2 ] ? 09 - 00 : 0 m { l [ ] x : 003 ? 8 - 0 : 0x01 } x : 1 // end",
	} {
		lookAtRead(t, em(), 1, s, want)
	}
	for _, s := range []string{"a1:1 b1{}", "b1{}a1:1", "b1{} last:\"\" plain:0 a1:1"} {
		want := msg(field(11, num(1)), field(12, in(msg())))
		if strings.Contains(s, "last") {
			want = msg(field(1, num(0)), field(11, num(1)), field(12, in(msg())), field(api.MaxNumber, str("")))
		}
		lookAtRead(t, wide(), 1, s, want)
	}
	lookAtRead(t, wide(), 1, "list[{a1:1}{a2{}}{a1:2 b1{a1:3}}] a2{w{a1:4}}", msg(field(8, in(msg(field(11, num(1)))), in(msg(field(13, in(msg())))), in(msg(field(11, num(2)), field(12, in(msg(field(11, num(3)))))))), field(13, in(msg(field(5, in(msg(field(11, num(4))))))))))
}

// TestP11_2Unknown has entries that are taken: of each wire kind the least and the greatest number.
func TestP11_2Unknown(t *testing.T) {
	for _, row := range []struct {
		s    string
		want api.Entry
	}{
		{"? 1 - 0 : 0", varint(1, 0)}, {"?536870911-0:18446744073709551615", varint(api.MaxNumber, math.MaxUint64)}, {"?0x1fffffff-0x0:0xffffffffffffffff", varint(api.MaxNumber, math.MaxUint64)},
		{"?1-1:0", fix64(1, 0)}, {"?1-01:18446744073709551615", fix64(1, math.MaxUint64)}, {"?1-5:0", fix32(1, 0)}, {"?1-5:4294967295", fix32(1, 1<<32-1)}, {"?1-0x05:0xFFFFFFFF", fix32(1, 1<<32-1)},
		{`?1-2:""`, chunk(1, "")}, {`?1-2:"\xff\n"`, chunk(1, "\xff\n")}, {`?000000000000000000000000007-2:"a"`, chunk(7, "a")}, {"? /* 2 */ 1 // -\n - 0\t:\r7", varint(1, 7)},
	} {
		lookAtRead(t, em(), 1, row.s, unknown(row.want))
		lookAtRead(t, em(), 1, "m{"+row.s+"\n"+row.s+"}", msg(field(3, in(unknown(row.want, row.want)))))
	}
}

// TestP11_2Names has names that stand for themselves elsewhere: of fields and of symbols.
func TestP11_2Names(t *testing.T) {
	x := samples.Table(
		api.Type{Name: "E", Enum: true, Symbols: []api.Symbol{{Name: "true"}, {Name: "f00000000", Number: 1}, {Name: "e", Number: 2}}},
		samples.Message("M", api.FieldType{Name: "true", Number: 1, Kind: api.Bool}, api.FieldType{Name: "f00000000", Number: 2, Kind: api.Float}, api.FieldType{Name: "e", Number: 3, Kind: api.Enum, Label: api.Packed}, api.FieldType{Name: "_", Number: 4, Kind: api.Message, Ref: 1, Label: api.Repeated}, api.FieldType{Name: "m", Number: 5, Kind: api.Bool, Label: api.Map, Key: api.Bool}))
	lookAtPrinted(t, x, 1, msg(field(1, num(1)), field(2, num(0)), field(3, num(0), num(1), num(2)), field(4, in(msg(field(1, num(0)))), in(msg())), pairs(5, num(0), num(1), num(1), num(0))),
		"true : true f00000000 : f00000000 e [ true f00000000 e ] _ [ { true : false } { } ] m < false : true true : false >")
}
