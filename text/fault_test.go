package text_test

import (
	"slices"
	"strings"
	"testing"

	"cartouche/api"
	"cartouche/model"
	"cartouche/samples"
	"cartouche/text"
)

// TestP11_2Split has the faults of words: they are told ahead of all that the words say, wherever they stand.
func TestP11_2Split(t *testing.T) {
	for _, s := range []string{"^#", "^1a", "^0x", `^"a`, "^\"\\q\"", "^/* x", "^/", "x:5 ^#", "x:5 x:6 ^1a", "y:1 ^0x", "}\n^$", "m{ // x\n^\"", "x:^1_", "x:^\"a\nb\"", "l[1^\\", "? 0 - 0 : ^\x00"} {
		lookAtMark(t, em(), 1, s, api.ErrSyntax)
	}
	for _, s := range []string{"x:^18446744073709551616", "x:-^18446744073709551616", "y ^0x10000000000000000", "? ^99999999999999999999 - 9 : x", "x:5 x:6\n^18446744073709551616"} {
		lookAtMark(t, em(), 1, s, api.ErrRange)
	}
	most := "x:5" + strings.Repeat(" ", api.MaxText-3)
	lookAtRead(t, em(), 1, most, msg(field(1, num(5))))
	lookAtFault(t, em(), 1, most+" ", api.Fault{Code: api.ErrTooBig})
	lookAtFault(t, em(), 1, strings.Repeat("#", api.MaxText+1), api.Fault{Code: api.ErrTooBig})
	lookAtFault(t, em(), 1, strings.Repeat("#", api.MaxText), api.Fault{Code: api.ErrSyntax, Line: 1, Col: 1})
}

// others are words of each kind: one of them goes on with hardly any form.
var others = []string{"{", "}", "[", "]", "(", ")", "<", ">", "=", ";", ",", ".", "-", ":", "?", "1", "0x0", "zz", "true", `"a"`, `"\xff"`, ""}

// place is one in a form: what stands ahead of it, and those of the words that may stand there ("" being the end of the text).
type place struct {
	index int
	ahead string
	words []string
}

// places has each place of each form, in types with each label.
func places() []place {
	const names, digits = "zz true", "1 0x0"
	const texts = `"a" "\xff"`
	l := func(s ...string) []string { return strings.Fields(strings.Join(s, " ")) }
	top := append(l(names, "?"), "")
	in := l(names, "?", "}")
	return []place{
		{1, "", top}, {1, "plain:1", top}, {1, "within{}", top}, {1, "repeated[]", top}, {1, "numbers<>", top}, {1, "?1-0:1", top}, {1, `?1-2:""`, top}, {1, "list[{}]", top}, {1, `text:""`, top}, {1, "symbol:A", top},
		{1, "within{", in}, {1, "b1{", in}, {1, "list[{", in}, {1, `map<"a":{`, in}, {1, "within{ x:f00000000", in}, {1, "within{ ?1-0:1", in}, {1, "list[{}{plain:1 repeated[]", in}, {1, "list[{list[{", in},
		{1, "plain", l(":")}, {1, "text", l(":")}, {1, "symbol", l(":")}, {1, "optional", l(":")}, {1, "a1", l(":")}, {1, "b2", l(":")}, {1, "last", l(":")}, {2, "x", l(":")},
		{1, "within", l("{")}, {1, "b1", l("{")}, {1, "a2", l("{")}, {2, "w", l("{")},
		{1, "repeated", l("[")}, {1, "packed", l("[")}, {1, "list", l("[")}, {1, "map", l("<")}, {1, "numbers", l("<")},
		{1, "plain:", l("-", digits)}, {1, "plain:-", l(digits)}, {1, "a1:", l("-", digits)}, {1, "a1:-", l(digits)}, {1, "text:", l(texts)}, {1, "b2:", l(texts)}, {1, "symbol:", l(names)}, {1, "optional:", l("true")}, {2, "x:", nil},
		{1, "repeated[", l("]", digits)}, {1, "repeated[1", l("]", digits)}, {1, "packed[", l("]")}, {1, "list[", l("]", "{")}, {1, "list[{}", l("]", "{")}, {1, "list[{}{}", l("]", "{")},
		{1, "map<", l(">", texts)}, {1, `map<"b"`, l(":")}, {1, `map<"b":`, l("{")}, {1, `map<"b":{}`, l(">", texts)}, {1, "numbers<", l(">", "-", digits)}, {1, "numbers<-", l(digits)}, {1, "numbers<-7", l(":")}, {1, "numbers<7:", l(names)}, {1, "numbers<7:A", l(">", "-", digits)},
		{1, "?", l(digits)}, {1, "?1", l("-")}, {1, "?1-", l(digits)}, {1, "?1-0", l(":")}, {1, "?1-0:", l(digits)}, {1, "?1-1:", l(digits)}, {1, "?1-5:", l(digits)}, {1, "?1-2:", l(texts)}, {1, "?1-2", l(":")},
		{1, "within{?", l(digits)}, {1, "within{?1-2:", l(texts)}, {1, "within{x", l(":")}, {1, "within{w{plain:", l("-", digits)},
	}
}

// TestP11_2ErrSyntax has each place of each form with each word that may not stand there, the end of the text too, and whatever follows.
func TestP11_2ErrSyntax(t *testing.T) {
	for _, p := range places() {
		taken := 0
		for _, w := range others {
			if slices.Contains(p.words, w) {
				taken++
				continue
			}
			behinds := []string{"", " zz", " : 5", "}", " ?", "\n]>}"}
			if w == "" {
				behinds = behinds[:1]
			}
			for _, behind := range behinds {
				for _, blank := range []string{" ", "/**/", " /* x */\n  "} {
					lookAtMark(t, wide(), p.index, p.ahead+blank+mark+w+behind, api.ErrSyntax)
				}
			}
		}
		if taken != len(p.words) {
			t.Errorf("%q: %d words of %q", p.ahead, taken, p.words)
		}
	}
}

func TestP11_2ErrName(t *testing.T) {
	for _, s := range []string{"^y:1", "^y", "^X:1", "^xx:1", "^_:1", "^E{}", "^M{}", "^A:1", "x:1 ^y", "x:1\n ^true", "l[]^n[]", "m{^y:1}", "m{x:1 ^q{}}", "m{m{m{^z}}}", "?1-0:1 ^y", "x:1 ^y:1 y:2", "^x1:1"} {
		lookAtMark(t, em(), 1, s, api.ErrName)
	}
	for _, s := range []string{"^a:1", "^b{}", "^o:1", "^W{}", "^x:f00000000", "within{^plain:1}", "within{^y:1}", "list[{plain:1}{^x:f00000000}]", `map<"a":{^a1:1}>`, "b1{^w{}}", "a2{^a2{}}"} {
		lookAtMark(t, wide(), 1, s, api.ErrName)
	}
	lookAtMark(t, single(api.Bool, api.Member, 0), around, "^o:true", api.ErrName) // a oneof is no field
	lookAtMark(t, samples.Table(samples.Message("M")), 0, "^x:1", api.ErrName)
}

func TestP11_2ErrSymbol(t *testing.T) {
	for _, s := range []string{"symbol:^D", "symbol:^a", "symbol:^AA", "symbol:^E", "symbol:^true", "symbol:^plain", "numbers<1:^D>", "numbers<1:A 2:^b", "list[{symbol:^D}]", "symbol:^D symbol:A", "plain:1\nsymbol:\n^F :"} {
		lookAtMark(t, wide(), 1, s, api.ErrSymbol)
	}
	for _, s := range []string{"symbol:^0", "symbol:^5", `symbol:^"A"`, "symbol:^-", "numbers<1:^5>"} {
		lookAtMark(t, wide(), 1, s, api.ErrSyntax)
	}
	for _, label := range []int{api.Repeated, api.Packed} {
		lookAtMark(t, single(api.Enum, label, 0), around, "f[A B C ^D", api.ErrSymbol)
		lookAtRead(t, single(api.Enum, label, 0), around, "f[A B C]", msg(field(number, num(0), num(5), num(1<<31-1))))
	}
}

func TestP11_2ErrDup(t *testing.T) {
	for _, s := range []string{"x:5 ^x:6", "x:5 ^x:5", "x:0 ^x", "l[]^l[]", "l[1]^l[2]", "m{}^m{}", "m{x:1}^m{l[]}", "x:1 l[] ^x:1", "x:1 m{x:1} ^x:2", "m{x:1 ^x:2}", "m{m{l[]^l[]}}", "x:1 ?1-0:1 ^x:1", "x:5 ^x 6", "x:5 ^x x", "l[] ^l:1", "x:1 ^x:99999999999"} {
		lookAtMark(t, em(), 1, s, api.ErrDup)
	}
	for _, s := range []string{
		"a1:1 ^a1:2", "a1:1 ^a2{}", "a2{} ^a1:1", "a2{} ^a2{}", `b1{} ^b2:""`, `b2:"" ^b1{}`, "a1:1 b1{} ^a2{}", "a1:1 b1{} ^b2:1", "b1{} a1:1 ^b1{}", "b1{a1:1 ^a2{}}", "a1:0 plain:1 ^a2", "list[{a1:1}{a1:1 ^a2{}}]", "a2{w{a1:1 ^a1:1}}", `map<> ^map<>`, "numbers<> ^numbers", "within{}^within{}",
		`map<"a":{} ^"a":{}>`, `map<"a":{} "b":{} ^"\x61":{}>`, `map<"":{} ^"" {}>`, `map<"a":{} ^"a"`, "numbers<1:A ^1:A>", "numbers<-1:A 1:A ^- 1:B>", "numbers<-1:A ^-0x1:B>", "numbers<-1:A ^-\n1", "numbers<0:A ^-0:B>", "numbers<-0:A ^0x0:B>", "numbers<2:A 1:A 3:A ^1:A 2:A", "numbers<1:A ^01:D", `list[{map<"a":{} ^"a">}]`,
	} {
		lookAtMark(t, wide(), 1, s, api.ErrDup)
	}
	lookAtMark(t, single(api.Bool, api.Map, api.Bool), around, "f<true:true false:true ^true:true>", api.ErrDup)
	for _, key := range samples.KeyKinds() {
		x := single(api.Bool, api.Map, key)
		for _, k := range samples.Rising(key) {
			for _, s := range bare(key, k) {
				lookAtMark(t, x, around, "f<"+spelt(key, k)+":true "+mark+s+":", api.ErrDup)
			}
		}
	}
	// In messages of their own, and of other oneofs, nothing stands twice.
	lookAtRead(t, wide(), 1, `list[{plain:1}{plain:1}] map<"a":{x:f00000000} "b":{x:f00000000}> plain:1`, msg(field(1, num(1)), field(8, in(msg(field(1, num(1)))), in(msg(field(1, num(1))))), pairs(9, str("a"), in(msg(field(2, num(0)))), str("b"), in(msg(field(2, num(0)))))))
	lookAtRead(t, em(), 1, "?1-0:1 x:1 ?1-0:1 ?1-0:1", with(msg(field(1, num(1))), varint(1, 1), varint(1, 1), varint(1, 1)))
}

// TestP11_2ErrTooDeep has each form in which a message stands, at the deepest place where one may, and one deeper.
func TestP11_2ErrTooDeep(t *testing.T) {
	for _, row := range []struct{ ahead, behind string }{{"b1", ""}, {"a2", ""}, {"within", ""}, {"list[", "]"}, {`map<"a":`, ">"}} {
		const last = api.MaxDepth - 2
		s := strings.Repeat("b1{", last) + row.ahead + "{}" + row.behind + strings.Repeat("}", last)
		if m, f := text.Parse(wide(), 1, s); f != (api.Fault{}) || model.Depth(m) != api.MaxDepth {
			t.Errorf("%s: depth %d, fault %v", s, model.Depth(m), f)
		}
		ahead := strings.Repeat("b1{", last+1) + row.ahead
		for _, rest := range []string{"", "}", "}" + row.behind + strings.Repeat("}", last+1), " zz", " plain", "{{{{", ":"} {
			lookAtMark(t, wide(), 1, ahead+mark+"{"+rest, api.ErrTooDeep)
		}
		for _, rest := range []string{"", ":", "}", "(", "1"} {
			lookAtMark(t, wide(), 1, ahead+" "+mark+rest, api.ErrSyntax)
		}
	}
	deep := strings.Repeat("m{", 15)
	lookAtRead(t, em(), 1, deep+strings.Repeat("}", 15), samples.Nested(3, 15, msg()))
	lookAtRead(t, em(), 1, deep+`x:1 l[] ?3-2:""`+strings.Repeat("}", 15), samples.Nested(3, 15, with(msg(field(1, num(1)), field(2)), chunk(3, ""))))
	lookAtMark(t, em(), 1, deep+"m^{"+strings.Repeat("}", 16), api.ErrTooDeep)
	lookAtMark(t, em(), 1, deep+"m^{"+strings.Repeat("m{", 5000), api.ErrTooDeep)
	lookAtMark(t, em(), 1, deep+"x:1 m^{", api.ErrTooDeep)
	lookAtMark(t, em(), 1, deep+"x^{", api.ErrSyntax)
	// Behind a message the depth is that around it again.
	wide16 := strings.Repeat("list[{", 15) + strings.Repeat("}]", 15)
	lookAtMark(t, wide(), 1, wide16+"b1{"+strings.Repeat("list[{", 14)+strings.Repeat("}{", 30)+"list[^{", api.ErrTooDeep)
	if _, f := text.Parse(wide(), 1, wide16+"b1{"+strings.Repeat("list[{", 14)+strings.Repeat("}{", 30)+strings.Repeat("}]", 14)+"}"); f != (api.Fault{}) {
		t.Errorf("one behind the other: fault %v", f)
	}
}

// TestP11_2UnknownFaults has entries that are none.
func TestP11_2UnknownFaults(t *testing.T) {
	for _, n := range []string{"0", "00", "0x0", "536870912", "0x20000000", "4294967296", "4294967297", "18446744073709551615", "0x8000000000000001"} {
		for _, rest := range []string{" - 0 : 1", "", " x", " - 9 : x", "-5:4294967296"} {
			lookAtMark(t, em(), 1, "?"+mark+n+rest, api.ErrNumber)
			lookAtMark(t, em(), 1, "x:1 m{? "+mark+n+rest, api.ErrNumber)
		}
	}
	for _, n := range []string{"3", "4", "6", "7", "8", "10", "0x3", "256", "4294967296", "4294967298", "18446744073709551615", "0x8000000000000002"} {
		for _, rest := range []string{" : 1", "", " x", ":x", `:"a"`} {
			lookAtMark(t, em(), 1, "?1-"+mark+n+rest, api.ErrKind)
			lookAtMark(t, em(), 1, "x:1 m{? 536870911 - "+mark+n+rest, api.ErrKind)
		}
	}
	for _, n := range []string{"4294967296", "0x100000000", "18446744073709551615", "0xffffffffffffffff"} {
		lookAtMark(t, em(), 1, "?1-5:"+mark+n, api.ErrRange)
		lookAtMark(t, em(), 1, "m{?1-5:0 ?1-5:"+mark+n+"}}", api.ErrRange)
		for _, kind := range []string{"0", "1"} {
			if _, f := text.Parse(em(), 1, "?1-"+kind+":"+n); f != (api.Fault{}) {
				t.Errorf("%s of the wire kind %s: fault %v", n, kind, f)
			}
		}
	}
	for _, s := range []string{"?1-0:^-1", "?1-5:^-1", "?^-1-0:1", "?1-^-0:1", `?1-0:^"a"`, `?1-1:^""`, `?1-5:^"a"`, "?1-2:^1", "?1-2:^a", "?1^:0", "?1-0^=1", "?^x-0:1", "?1-^Varint:1", "?1^,0:1", "?^?"} {
		lookAtMark(t, em(), 1, s, api.ErrSyntax)
	}
}

// TestP11_2First sees that of two faults the first from the left is told.
func TestP11_2First(t *testing.T) {
	faults := []struct {
		s string
		e api.Errno
	}{
		{"^zz:1", api.ErrName}, {"a1:1 ^a1:2", api.ErrDup}, {"b1{} ^b2:1", api.ErrDup}, {"plain:^9223372036854775808", api.ErrRange}, {"plain:^-9223372036854775809", api.ErrRange}, {`text:^"\xff"`, api.ErrText}, {"symbol:^D", api.ErrSymbol}, {"optional:^yes", api.ErrSyntax},
		{"? ^0 - 0 : 1", api.ErrNumber}, {"?1-^3:1", api.ErrKind}, {"?1-5:^4294967296", api.ErrRange}, {"^}", api.ErrSyntax}, {"repeated[^x", api.ErrSyntax}, {`map<"a":{} ^"a":{}>`, api.ErrDup}, {"numbers<-5:A ^-5:A>", api.ErrDup}, {strings.Repeat("within{w{", 8)[:71] + "^{", api.ErrTooDeep},
	}
	for _, one := range faults {
		lookAtMark(t, wide(), 1, one.s, one.e)
		for _, two := range faults {
			behind := strings.Replace(two.s, mark, "", 1)
			lookAtMark(t, wide(), 1, one.s+"\n"+behind, one.e)
			lookAtMark(t, wide(), 1, "last:\"\" "+one.s+" "+behind, one.e)
		}
	}
}
