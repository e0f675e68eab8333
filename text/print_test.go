package text_test

import (
	"math"
	"strings"
	"testing"

	"cartouche/api"
	"cartouche/samples"
	"cartouche/text"
)

func TestP11_1Examples(t *testing.T) {
	m := with(msg(field(1, num(-1)), field(2, num(1), num(2)), field(3, in(msg()))), chunk(9, "a"))
	lookAtPrinted(t, em(), 1, m, `x : -1 l [ 1 2 ] m { } ? 9 - 2 : "a"`)
	lookAtPrinted(t, em(), 1, msg(), "")
}

// TestP11_1ErrArg sees that tables that are not good, and an index that is no message's, are refused by both calls, whatever else is wrong, and in Parse without a place.
func TestP11_1ErrArg(t *testing.T) {
	refused := func(what string, x api.Table, index int) {
		t.Helper()
		for _, m := range []api.Msg{msg(), msg(field(9)), samples.Nested(3, 20, msg()), msg(field(1, num(1)))} {
			if s, e := text.Print(x, index, m); s != "" || e != api.ErrArg {
				t.Errorf("%s, %d: Print: %q, error %d", what, index, s, e)
			}
		}
		for _, s := range []string{"", "x:1", "y:1", "x", "#", "1a", `"`, "99999999999999999999", strings.Repeat(" ", api.MaxText+1)} {
			if m, f := text.Parse(x, index, s); told(m) != "{}" || f != (api.Fault{Code: api.ErrArg}) {
				t.Errorf("%s, %d: Parse(%.20q): %s, fault %v", what, index, s, told(m), f)
			}
		}
	}
	for _, x := range samples.WrongTables() {
		refused(x.What, x.Table, 1)
	}
	for _, index := range []int{-1, 0, 2, 3, 128, math.MinInt, math.MaxInt, -1 << 31, 1 << 32, 1<<32 + 1} {
		refused("index", em(), index)
	}
	for _, index := range []int{0, 1, -1} {
		refused("no types", api.Table{}, index)
	}
}

// TestP11_1One has each kind with each label of one value.
func TestP11_1One(t *testing.T) {
	for kind := api.Bool; kind <= api.Message; kind++ {
		good, bad := values(kind)
		for _, label := range oneLabels {
			if !samples.CanBe(kind, label) {
				continue
			}
			x, ahead := single(kind, label, 0), "f : "
			if kind == api.Message {
				ahead = "f "
			}
			for _, v := range good {
				lookAtPrinted(t, x, around, msg(field(number, v)), ahead+spelt(kind, v))
			}
			for _, v := range bad {
				lookAtRefused(t, x, around, msg(field(number, v)), api.ErrType)
			}
		}
	}
}

// TestP11_1Lists has each kind with each label of lists.
func TestP11_1Lists(t *testing.T) {
	for kind := api.Bool; kind <= api.Message; kind++ {
		good, bad := values(kind)
		for _, label := range listLabels {
			if !samples.CanBe(kind, label) {
				continue
			}
			x := single(kind, label, 0)
			for _, l := range [][]api.Val{nil, good[:1], good, {good[1], good[0], good[1], good[1]}} {
				words := []string{"f", "["}
				for _, v := range l {
					words = append(words, spelt(kind, v))
				}
				lookAtPrinted(t, x, around, msg(field(number, l...)), strings.Join(append(words, "]"), " "))
			}
			for _, v := range bad {
				lookAtRefused(t, x, around, msg(field(number, good[0], v)), api.ErrType)
			}
		}
	}
}

// TestP11_1Maps has each kind of keys with each kind of values.
func TestP11_1Maps(t *testing.T) {
	for _, key := range samples.KeyKinds() {
		keys := samples.Rising(key)
		_, badKeys := values(key)
		for kind := api.Bool; kind <= api.Message; kind++ {
			good, bad := values(kind)
			x := single(kind, api.Map, key)
			f, words := pairs(number), []string{"f", "<"}
			lookAtPrinted(t, x, around, msg(f), "f < >")
			for i, k := range keys {
				v := good[i%len(good)]
				lookAtPrinted(t, x, around, msg(pairs(number, k, v)), "f < "+spelt(key, k)+" : "+spelt(kind, v)+" >")
				f.Keys, f.Vals = append(f.Keys, k), append(f.Vals, v)
				words = append(words, spelt(key, k), ":", spelt(kind, v))
			}
			lookAtPrinted(t, x, around, msg(f), strings.Join(append(words, ">"), " "))
			for _, v := range bad {
				lookAtRefused(t, x, around, msg(pairs(number, keys[0], v)), api.ErrType)
			}
			for _, k := range badKeys {
				lookAtRefused(t, x, around, msg(pairs(number, k, good[0])), api.ErrType)
			}
			lookAtRefused(t, x, around, msg(pairs(number, keys[1], good[0], keys[0], good[0])), api.ErrType)
			lookAtRefused(t, x, around, msg(pairs(number, keys[0], good[0], keys[0], good[0])), api.ErrType)
		}
	}
}

// TestP11_1Spelt has spellings by hand, of values whose form is not seen from others.
func TestP11_1Spelt(t *testing.T) {
	for _, row := range []struct {
		kind int
		v    api.Val
		want string
	}{
		{api.Bool, num(1), "true"}, {api.Bool, num(0), "false"}, {api.Int32, num(-1 << 31), "-2147483648"}, {api.Sfixed64, num(math.MinInt64), "-9223372036854775808"}, {api.Int64, num(math.MaxInt64), "9223372036854775807"},
		{api.Uint64, num(-1), "18446744073709551615"}, {api.Fixed32, num(1<<32 - 1), "4294967295"}, {api.Sint32, num(0), "0"}, {api.Float, num(0x3f800000), "f3f800000"}, {api.Float, num(0xa), "f0000000a"},
		{api.Double, num(0x3ff0000000000000), "d3ff0000000000000"}, {api.Double, num(0), "d0000000000000000"}, {api.String, str("a\"\\\n\t\r\x00\u00e9~"), `"a\"\\\n\t\r\x00\xc3\xa9~"`}, {api.Bytes, str("\xff"), `"\xff"`}, {api.String, str(""), `""`}, {api.Enum, num(5), "B"}, {api.Enum, num(1<<31 - 1), "C"},
	} {
		lookAtPrinted(t, single(row.kind, api.Optional, 0), around, msg(field(number, row.v)), "f : "+row.want)
	}
}

// TestP11_1Unknown has entries of each wire kind: behind the fields, in their order, in messages within too, those among them that a field would take.
func TestP11_1Unknown(t *testing.T) {
	for _, row := range []struct {
		u    api.Entry
		want string
	}{
		{varint(1, 0), "? 1 - 0 : 0"}, {varint(1, math.MaxUint64), "? 1 - 0 : 18446744073709551615"}, {varint(api.MaxNumber, 300), "? 536870911 - 0 : 300"},
		{fix64(2, 0), "? 2 - 1 : 0"}, {fix64(2, math.MaxUint64), "? 2 - 1 : 18446744073709551615"}, {fix32(3, 0), "? 3 - 5 : 0"}, {fix32(3, 1<<32-1), "? 3 - 5 : 4294967295"},
		{chunk(4, ""), `? 4 - 2 : ""`}, {chunk(4, "a b"), `? 4 - 2 : "a b"`}, {chunk(4, "\x00\"\xff"), `? 4 - 2 : "\x00\"\xff"`},
	} {
		lookAtPrinted(t, em(), 1, unknown(row.u), row.want)
		lookAtPrinted(t, em(), 1, unknown(row.u, varint(1, 5), row.u), row.want+" ? 1 - 0 : 5 "+row.want)
		lookAtPrinted(t, em(), 1, with(msg(field(3, in(unknown(row.u)))), varint(3, 7)), "m { "+row.want+" } ? 3 - 0 : 7")
		lookAtPrinted(t, em(), 1, with(msg(field(1, num(1))), row.u), "x : 1 "+row.want)
	}
	for _, u := range []api.Entry{varint(0, 0), varint(-1, 0), varint(api.MaxNumber+1, 0), fix32(1, 1<<32), {Number: 1, Kind: 3}, {Number: 1, Kind: 4}, {Number: 1, Kind: 6}, {Number: 1, Kind: -1}, {Number: 1, B: []byte("a")}, {Number: 1, Kind: api.Chunk, N: 1}} {
		lookAtRefused(t, em(), 1, unknown(u), api.ErrType)
		lookAtRefused(t, em(), 1, msg(field(3, in(unknown(u)))), api.ErrType)
	}
}

// TestP11_1Within has messages within wherever there can be some, empty ones too.
func TestP11_1Within(t *testing.T) {
	x, p := field(2, num(1)), field(1, num(-7))
	for _, row := range []struct {
		m    api.Msg
		want string
	}{
		{msg(field(5, in(msg()))), "within { }"},
		{msg(field(5, in(msg(x, field(5, in(msg(p))))))), "within { x : f00000001 w { plain : -7 } }"},
		{msg(field(8)), "list [ ]"},
		{msg(field(8, in(msg()), in(msg(p)), in(unknown(varint(9, 1))))), "list [ { } { plain : -7 } { ? 9 - 0 : 1 } ]"},
		{msg(field(8, in(msg(field(8, in(msg(field(8)))))))), "list [ { list [ { list [ ] } ] } ]"},
		{msg(pairs(9)), "map < >"},
		{msg(pairs(9, str(""), in(msg()), str("a"), in(msg(x)))), `map < "" : { } "a" : { x : f00000001 } >`},
		{msg(pairs(10, num(-3), num(0), num(2), num(5))), "numbers < -3 : A 2 : B >"},
		{msg(field(11, num(0)), field(12, in(msg()))), "a1 : 0 b1 { }"},
		{msg(field(13, in(msg(x))), field(14, str("\xff"))), `a2 { x : f00000001 } b2 : "\xff"`},
		{msg(p, field(2, str("t")), field(3, num(5)), field(4, num(0)), field(6, num(1), num(2)), field(7, num(0)), field(api.MaxNumber, str(""))), `plain : -7 text : "t" symbol : B optional : false repeated [ 1 2 ] packed [ d0000000000000000 ] last : ""`},
		{msg(field(1, num(0)), field(2, str("")), field(3, num(0)), field(6), field(7)), `plain : 0 text : "" symbol : A repeated [ ] packed [ ]`},
	} {
		lookAtPrinted(t, wide(), 1, row.m, row.want)
	}
}

// TestP11_1TooDeep has messages that are as deep as can be, and one deeper, by each label that may hold one.
func TestP11_1TooDeep(t *testing.T) {
	for _, row := range []struct {
		wrap          func(m api.Msg) api.Field
		ahead, behind string
	}{
		{func(m api.Msg) api.Field { return field(8, in(m)) }, "list [ { ", "} ]"},
		{func(m api.Msg) api.Field { return field(12, in(m)) }, "b1 { ", "}"},
	} {
		m := msg()
		for depth := 1; depth < 20; depth++ {
			if depth > api.MaxDepth {
				lookAtRefused(t, wide(), 1, m, api.ErrTooDeep)
			} else {
				s := strings.Repeat(row.ahead, depth-1) + strings.Repeat(row.behind+" ", depth-1)
				lookAtPrinted(t, wide(), 1, m, strings.TrimSuffix(s, " "))
			}
			m = msg(row.wrap(m))
		}
	}
	deepest := samples.Nested(12, api.MaxDepth-2, msg(pairs(9, str("a"), in(msg()))))
	lookAtPrinted(t, wide(), 1, deepest, strings.Repeat("b1 { ", 14)+`map < "a" : { } >`+strings.Repeat(" }", 14))
	lookAtRefused(t, wide(), 1, msg(field(12, in(deepest))), api.ErrTooDeep)
	lookAtPrinted(t, em(), 1, samples.Nested(3, 15, msg(field(1, num(1)))), strings.Repeat("m { ", 15)+"x : 1"+strings.Repeat(" }", 15))
	lookAtRefused(t, em(), 1, samples.Nested(3, 16, msg()), api.ErrTooDeep)
	lookAtRefused(t, em(), 1, samples.Nested(3, 1<<16-1, msg()), api.ErrTooDeep)
}

// sized tells messages of W whose texts have so many bytes, with different words at their ends.
func sized(size int) []api.Msg {
	long := func(ahead, behind string) api.Val {
		return str(strings.Repeat("a", size-len(ahead+` ""`+behind)))
	}
	escaped := long("last :", "")
	escaped.B = append(escaped.B[:len(escaped.B)-len(`\xff`)], 255)
	return []api.Msg{
		msg(field(api.MaxNumber, long("last :", ""))),
		msg(field(api.MaxNumber, escaped)),
		msg(field(2, long("text :", ` last : ""`)), field(api.MaxNumber, str(""))),
		msg(field(2, long("text :", " list [ ]")), field(8)),
		msg(field(2, long("text :", " numbers < 1 : B >")), pairs(10, num(1), num(5))),
		msg(field(2, long("text :", " b1 { }")), field(12, in(msg()))),
		msg(field(2, long("text :", " a1 : -5")), field(11, num(-5))),
		with(msg(field(2, long("text :", " ? 9 - 0 : 10"))), varint(9, 10)),
		unknown(chunk(1, string(long("? 1 - 2 :", "").B))),
		msg(pairs(9, long("map <", " : { } >"), in(msg()))),
	}
}

// TestP11_1TooBig has texts of as many bytes as can be, and of one more.
func TestP11_1TooBig(t *testing.T) {
	for _, m := range sized(api.MaxText) {
		s, e := text.Print(wide(), 1, m)
		if e != api.OK || len(s) != api.MaxText {
			t.Errorf("%.60s ..: %d bytes, error %d", s, len(s), e)
		}
		lookAtRead(t, wide(), 1, s, m)
	}
	for more := 1; more < 12; more++ {
		for _, m := range sized(api.MaxText + more) {
			lookAtRefused(t, wide(), 1, m, api.ErrTooBig)
		}
	}
	for _, count := range []int{1, 2, 3} {
		m := sized(api.MaxText)[0]
		m.Fields[0].Vals[0].B = []byte(strings.Repeat("\xff", api.MaxText/4-count))
		want := api.OK
		if len(`last : ""`)+4*(api.MaxText/4-count) > api.MaxText {
			want = api.ErrTooBig
		}
		if s, e := text.Print(wide(), 1, m); e != want || (s == "") != (want != api.OK) {
			t.Errorf("%d bytes, all told by digits: %d bytes, error %d", api.MaxText/4-count, len(s), e)
		}
	}
	lookAtRefused(t, wide(), 1, msg(field(api.MaxNumber, str(strings.Repeat("a", 1<<24)))), api.ErrTooBig)
	lookAtRefused(t, wide(), 1, unknown(chunk(1, strings.Repeat("a", api.MaxSize))), api.ErrTooBig)
	lookAtRefused(t, wide(), 1, msg(field(6, make([]api.Val, 1<<20)...)), api.ErrTooBig)
	lookAtRefused(t, wide(), 1, unknown(make([]api.Entry, 1<<20)...), api.ErrType)
}

// TestP11_1First sees which error is told of several.
func TestP11_1First(t *testing.T) {
	big := field(2, str(strings.Repeat("a", api.MaxText+1)))
	bad := field(99, num(1))
	deep := func(m api.Msg) api.Field { return field(12, in(samples.Nested(12, api.MaxDepth-1, m))) }
	for _, row := range []struct {
		m    api.Msg
		want api.Errno
	}{
		{msg(big), api.ErrTooBig}, {msg(deep(msg())), api.ErrTooDeep}, {msg(bad), api.ErrType},
		{msg(big, deep(msg())), api.ErrTooDeep}, {msg(deep(msg(big))), api.ErrTooDeep},
		{msg(big, bad), api.ErrType}, {msg(deep(msg(bad))), api.ErrType}, {msg(deep(msg()), bad), api.ErrType}, {msg(big, deep(msg()), bad), api.ErrType},
		{samples.Nested(12, api.MaxDepth-1, msg(big)), api.ErrTooBig}, {with(msg(big, deep(msg())), varint(0, 1)), api.ErrType},
	} {
		lookAtRefused(t, wide(), 1, row.m, row.want)
		lookAtRefused(t, wide(), 0, row.m, api.ErrArg)
		lookAtRefused(t, wide(), 3, row.m, api.ErrArg)
	}
}

// TestP11_1ErrType has messages that are not typed by M, or by a type with a oneof.
func TestP11_1ErrType(t *testing.T) {
	for _, m := range []api.Msg{
		msg(field(9)), msg(field(0)), msg(field(-1, num(1))), msg(field(1)), msg(field(1, num(1), num(2))), msg(field(1, num(1<<31))), msg(field(1, str("a"))), msg(pairs(1, num(1), num(1))),
		msg(field(2, num(1)), field(1, num(1))), msg(field(1, num(1)), field(1, num(1))), msg(field(3)), msg(field(3, num(1))), msg(field(3, in())), msg(field(3, in(msg(), msg()))), msg(field(3, in(msg(field(9))))),
		samples.Nested(3, 9, msg(field(4))), samples.Nested(3, 1<<16-1, msg(field(9))),
	} {
		lookAtRefused(t, em(), 1, m, api.ErrType)
	}
	lookAtRefused(t, wide(), 1, msg(field(11, num(1)), field(13, in(msg()))), api.ErrType)
	lookAtRefused(t, wide(), 1, msg(field(3, num(1))), api.ErrType)
	lookAtRefused(t, wide(), 1, msg(field(2, str("\xff"))), api.ErrType)
}
