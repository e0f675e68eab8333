package interp_test

import (
	"bytes"
	"math"
	"slices"
	"testing"

	"cartouche/api"
	"cartouche/interp"
	"cartouche/samples"
)

func TestP9_1Examples(t *testing.T) {
	x, l := field(1, num(5)), field(2, num(1), num(2), num(3))
	for _, row := range []struct {
		b    []byte
		want api.Msg
	}{
		{nil, msg()}, {[]byte{8, 5}, msg(x)}, {[]byte{8, 0}, msg(field(1, num(0)))}, {[]byte{18, 2, 1, 2, 16, 3}, msg(l)}, {[]byte{18, 0}, msg(field(2))},
		{[]byte{26, 2, 8, 1, 26, 2, 18, 0}, msg(field(3, in(msg(field(1, num(1)), field(2)))))}, {[]byte{24, 7}, unknown(varint(3, 7))},
	} {
		lookAtRead(t, em(), 1, row.b, row.want)
	}
	lookAtFault(t, em(), 1, []byte{8}, api.ErrEnd)
	lookAtFault(t, em(), 1, []byte{11}, api.ErrKind)
	lookAtFault(t, em(), 1, []byte{18, 1, 128}, api.ErrEnd)
	lookAtFault(t, em(), 1, []byte{26, 1, 8}, api.ErrEnd)
}

// refused sees that each call tells ErrArg, and nothing beside.
func refused(t *testing.T, what string, x api.Table, index int) {
	t.Helper()
	for _, b := range [][]byte{nil, {8, 5}, {0}, make([]byte, api.MaxMessage+1)} {
		if m, e := interp.Decode(x, index, b); e != api.ErrArg || told(m) != "{}" {
			t.Errorf("%s, index %d: Decode tells %s, error %d", what, index, told(m), e)
		}
		if known, unknown, e := interp.Entries(x, index, b); e != api.ErrArg || known != 0 || unknown != 0 {
			t.Errorf("%s, index %d: Entries tells %d, %d, error %d", what, index, known, unknown, e)
		}
	}
	for _, m := range []api.Msg{msg(), msg(field(1, num(5))), msg(field(9)), samples.Nested(3, 16, msg()), unknown(text(9, string(make([]byte, api.MaxMessage))))} {
		if b, e := interp.Encode(x, index, m); e != api.ErrArg || len(b) > 0 {
			t.Errorf("%s, index %d: Encode tells % d, error %d", what, index, b, e)
		}
		if n, e := interp.Size(x, index, m); e != api.ErrArg || n != 0 {
			t.Errorf("%s, index %d: Size tells %d, error %d", what, index, n, e)
		}
	}
}

func TestErrArg(t *testing.T) {
	for _, index := range []int{-1, 0, 2, 3, 128, math.MinInt, math.MaxInt} {
		refused(t, "E, M", em(), index)
	}
	refused(t, "no types", api.Table{}, 0)
	for _, x := range samples.WrongTables() {
		for index := -1; index <= min(len(x.Table.Types), 3); index++ {
			refused(t, x.What, x.Table, index)
		}
	}
	lookAtRead(t, em(), 1, nil, msg())
	lookAtRead(t, wide(), 2, nil, msg())
}

// bare tells the bytes of a value without its tag; of a message those of its field 1 alone.
func bare(kind int, v api.Val) []byte {
	if kind != api.Message {
		return samples.Bare(kind, v)
	}
	var b []byte
	for _, f := range v.M[0].Fields {
		b = all(tag(1, api.Varint), digits(f.Vals[0].N))
	}
	for _, x := range v.M[0].Unknown {
		b = all(b, tag(x.Number, x.Kind), digits(x.N))
	}
	return chunk(b)
}

// eachField goes through the kinds and labels that a field can have.
func eachField(look func(x api.Table, kind, label int)) {
	for kind := api.Bool; kind <= api.Message; kind++ {
		for label := api.Plain; label <= api.Member; label++ {
			if samples.CanBe(kind, label) {
				look(single(kind, label, 0), kind, label)
			}
		}
	}
}

func isList(label int) bool { return label == api.Repeated || label == api.Packed }

func TestP9_1Values(t *testing.T) {
	eachField(func(x api.Table, kind, label int) {
		good, _ := samples.Values(kind)
		own := tag(number, ownWire(kind))
		var several []byte
		for _, v := range good {
			b := bare(kind, v)
			lookAtRead(t, x, around, all(own, b), msg(field(number, v)))
			several = all(several, own, b)
		}
		switch {
		case isList(label):
			lookAtRead(t, x, around, several, msg(field(number, good...)))
		case kind != api.Message || label == api.Member:
			lookAtRead(t, x, around, several, msg(field(number, good[len(good)-1])))
		}
		if isList(label) && ownWire(kind) != api.Chunk {
			var row []byte
			for _, v := range good {
				row = all(row, bare(kind, v))
			}
			lookAtRead(t, x, around, all(tag(number, api.Chunk), chunk(row)), msg(field(number, good...)))
			lookAtRead(t, x, around, all(own, bare(kind, good[1]), tag(number, api.Chunk), chunk(row), own, bare(kind, good[0])), msg(field(number, slices.Concat(good[1:2], good, good[:1])...)))
		}
	})
}

// TestP9_1MapValues has values of each kind behind keys of each kind.
func TestP9_1MapValues(t *testing.T) {
	for _, key := range samples.KeyKinds() {
		x := single(api.Bool, api.Map, key)
		keys := samples.Rising(key)
		want := api.Field{Number: number}
		var b []byte
		for i, k := range keys {
			v := num(int64(i % 2))
			want.Keys, want.Vals = append(want.Keys, k), append(want.Vals, v)
			b = all(tag(number, api.Chunk), chunk(tag(1, ownWire(key)), bare(key, k), tag(2, 0), digits(v.N)), b) // falling
		}
		lookAtRead(t, x, around, b, msg(want))
	}
	for kind := api.Bool; kind <= api.Message; kind++ {
		x := single(kind, api.Map, api.Uint32)
		good, _ := samples.Values(kind)
		want := api.Field{Number: number}
		var b []byte
		for i, v := range good {
			want.Keys, want.Vals = append(want.Keys, num(int64(i))), append(want.Vals, v)
			b = all(b, tag(number, api.Chunk), chunk(tag(1, 0), digits(uint64(i)), tag(2, ownWire(kind)), bare(kind, v)))
		}
		lookAtRead(t, x, around, b, msg(want))
		lookAtRead(t, x, around, all(tag(number, api.Chunk), chunk()), msg(pairs(number, num(0), good[0])))
	}
}

// flaw is bytes that stand behind a tag, and their error.
type flaw struct {
	b    []byte
	want api.Errno
}

var longest = bytes.Repeat([]byte{255}, 9)

// flaws tells wrong values of a kind: those whose end lacks last.
func flaws(kind int) (whole, cut []flaw) {
	tooLong := []flaw{{append(slices.Clip(longest), 2), api.ErrVarint}, {append(slices.Clip(longest), 255), api.ErrVarint}}
	cut = []flaw{{nil, api.ErrEnd}}
	switch ownWire(kind) {
	case api.Fix32:
		return nil, append(cut, flaw{make([]byte, 3), api.ErrEnd})
	case api.Fix64:
		return nil, append(cut, flaw{make([]byte, 7), api.ErrEnd})
	case api.Varint:
		cut = append(cut, flaw{[]byte{128}, api.ErrEnd}, flaw{longest, api.ErrEnd})
	case api.Chunk:
		cut = append(cut, flaw{[]byte{128}, api.ErrEnd}, flaw{[]byte{1}, api.ErrEnd}, flaw{[]byte{3, 8, 1}, api.ErrEnd}, flaw{append(slices.Clip(longest), 1), api.ErrEnd}, flaw{append(slices.Clip(longest), 0), api.ErrEnd})
	}
	number := func(want api.Errno, l ...uint64) {
		for _, n := range l {
			whole = append(whole, flaw{digits(n), want})
		}
	}
	whole = tooLong
	switch kind {
	case api.Bool:
		number(api.ErrRange, 2, 255, 1<<32, 1<<63, math.MaxUint64)
	case api.Int32:
		number(api.ErrRange, 1<<31, 1<<32-1, 1<<32, 1<<63, math.MaxUint64-1<<31)
	case api.Uint32:
		number(api.ErrRange, 1<<32, 1<<63, math.MaxUint64)
	case api.Sint32:
		number(api.ErrRange, 1<<32, 1<<32+1, math.MaxUint64)
	case api.Enum:
		number(api.ErrRange, 1<<31, 1<<32, 1<<32+5, math.MaxUint64)
		number(api.ErrSymbol, 1, 4, 6, 1<<31-2)
	case api.String:
		whole = append(whole, flaw{[]byte{1, 255}, api.ErrText}, flaw{[]byte{3, 97, 195, 97}, api.ErrText}, flaw{[]byte{3, 0xed, 0xa0, 0x80}, api.ErrText})
	case api.Message:
		whole = append(whole, flaw{[]byte{1, 8}, api.ErrEnd}, flaw{[]byte{1, 0}, api.ErrNumber}, flaw{[]byte{1, 11}, api.ErrKind}, flaw{chunk([]byte{8}, longest, []byte{2}), api.ErrVarint}, flaw{chunk([]byte{8}, digits(1<<31)), api.ErrRange}, flaw{[]byte{3, 8, 1, 128}, api.ErrEnd}, flaw{[]byte{4, 8, 1, 74, 1}, api.ErrEnd})
	}
	return whole, cut
}

// behind are bytes behind a fault: they change nothing, be they whole or a fault of another sort.
func behind() [][]byte {
	return [][]byte{nil, {8, 1}, {0}, {11}, all([]byte{8}, longest, []byte{2}), make([]byte, 40)}
}

func TestP9_1ValueFaults(t *testing.T) {
	eachField(func(x api.Table, kind, label int) {
		good, _ := samples.Values(kind)
		own := tag(number, ownWire(kind))
		ahead := all(own, bare(kind, good[1]))
		whole, cut := flaws(kind)
		for _, f := range whole {
			for _, more := range behind() {
				lookAtFault(t, x, around, all(own, f.b, more), f.want)
				lookAtFault(t, x, around, all(ahead, own, f.b, more), f.want)
			}
		}
		for _, f := range cut {
			lookAtFault(t, x, around, all(own, f.b), f.want)
			lookAtFault(t, x, around, all(ahead, own, f.b), f.want)
		}
		if !isList(label) || ownWire(kind) == api.Chunk {
			return
		}
		row := tag(number, api.Chunk)
		for _, more := range behind() {
			for _, f := range whole {
				lookAtFault(t, x, around, all(row, chunk(f.b), more), f.want)
				lookAtFault(t, x, around, all(row, chunk(bare(kind, good[0]), f.b, longest), more), f.want)
			}
			for _, f := range cut[1:] { // a row without values is none
				lookAtFault(t, x, around, all(row, chunk(f.b), more), f.want)
				lookAtFault(t, x, around, all(row, chunk(bare(kind, good[0]), f.b), more), f.want)
			}
			_, cut := flaws(api.Bytes)
			for _, f := range cut {
				lookAtFault(t, x, around, all(row, f.b), f.want)
			}
			lookAtFault(t, x, around, all(row, longest, []byte{2}, more), api.ErrVarint)
		}
	})
}

// TestP9_1MapFaults has faults in keys, in values, in entries that are dropped, and in the chunk itself.
func TestP9_1MapFaults(t *testing.T) {
	pair := tag(number, api.Chunk)
	look := func(x api.Table, ahead []byte, l []flaw, isWhole bool) {
		t.Helper()
		for _, f := range l {
			for _, more := range behind() {
				lookAtFault(t, x, around, all(pair, chunk(ahead, f.b), more), f.want)
				lookAtFault(t, x, around, all(pair, chunk(), pair, chunk(ahead, f.b), more), f.want)
				if isWhole {
					lookAtFault(t, x, around, all(pair, chunk(ahead, f.b, more), more), f.want)
				}
			}
		}
	}
	for _, key := range samples.KeyKinds() {
		whole, cut := flaws(key)
		look(single(api.Bool, api.Map, key), tag(1, ownWire(key)), whole, true)
		look(single(api.Bool, api.Map, key), tag(1, ownWire(key)), cut, false)
	}
	for kind := api.Bool; kind <= api.Message; kind++ {
		whole, cut := flaws(kind)
		look(single(kind, api.Map, api.Uint32), tag(2, ownWire(kind)), whole, true)
		look(single(kind, api.Map, api.Uint32), all([]byte{8, 7}, tag(2, ownWire(kind))), cut, false)
	}
	x := single(api.Enum, api.Map, api.String)
	dropped := []flaw{{[]byte{0}, api.ErrNumber}, {[]byte{11}, api.ErrKind}, {[]byte{28}, api.ErrKind}, {digits(1 << 32), api.ErrNumber}, {all(tag(3, 0), longest, []byte{2}), api.ErrVarint}, {all(longest, []byte{2}), api.ErrVarint}, {all(tag(1, 0), longest, []byte{2}), api.ErrVarint}}
	look(x, nil, dropped, true)
	look(x, []byte{10, 1, 97, 16, 5}, dropped, true)
	cut := []flaw{{tag(3, 0), api.ErrEnd}, {[]byte{128}, api.ErrEnd}, {all(tag(3, 1), make([]byte, 7)), api.ErrEnd}, {all(tag(3, 5), make([]byte, 3)), api.ErrEnd}, {all(tag(3, 2), []byte{2, 1}), api.ErrEnd}, {all(tag(2, 2), []byte{2, 1}), api.ErrEnd}, {all(tag(1, 5), make([]byte, 3)), api.ErrEnd}}
	look(x, nil, cut, false)
	look(x, []byte{10, 1, 97, 16, 5}, cut, false)
	_, chunks := flaws(api.Bytes)
	for _, f := range chunks {
		lookAtFault(t, x, around, all(pair, f.b), f.want)
	}
	lookAtFault(t, x, around, all(pair, longest, []byte{2}), api.ErrVarint)
}

// wholeFaults are entries of W with a fault, none of which is that bytes lack: in tags, values, rows, maps, messages within, entries that no field takes.
func wholeFaults() []flaw {
	varintFault := all(longest, []byte{2})
	l := []flaw{
		{[]byte{0}, api.ErrNumber}, {[]byte{5}, api.ErrNumber}, {digits(1 << 32), api.ErrNumber}, {digits(math.MaxUint64), api.ErrNumber}, {[]byte{3}, api.ErrNumber},
		{tag(1, 3), api.ErrKind}, {tag(1, 4), api.ErrKind}, {tag(8, 6), api.ErrKind}, {tag(99, 7), api.ErrKind}, {varintFault, api.ErrVarint},
		{all(tag(1, 0), varintFault), api.ErrVarint}, {all(tag(99, 0), varintFault), api.ErrVarint}, {all(tag(99, 2), varintFault), api.ErrVarint}, {all(tag(8, 0), varintFault), api.ErrVarint},
		{all(tag(2, 2), chunk([]byte{255})), api.ErrText}, {all(tag(3, 0), digits(4)), api.ErrSymbol}, {all(tag(3, 0), digits(1<<31)), api.ErrRange}, {all(tag(4, 0), digits(2)), api.ErrRange},
		{all(tag(6, 2), chunk(make([]byte, 5))), api.ErrEnd}, {all(tag(7, 2), chunk(make([]byte, 15))), api.ErrEnd},
		{all(tag(9, 2), chunk([]byte{10, 1, 255})), api.ErrText}, {all(tag(9, 2), chunk([]byte{18, 1, 8})), api.ErrEnd}, {all(tag(10, 2), chunk([]byte{16, 4})), api.ErrSymbol}, {all(tag(10, 2), chunk([]byte{8}, digits(1<<31))), api.ErrRange}, {all(tag(10, 2), chunk([]byte{11})), api.ErrKind},
		{all(tag(11, 0), digits(1<<31)), api.ErrRange}, {all(tag(13, 2), chunk([]byte{0})), api.ErrNumber}, {inside(8, 16, nil), api.ErrTooDeep}, {inside(8, 16, []byte{0}), api.ErrTooDeep},
	}
	for _, f := range slices.Clone(l[:len(l)-2]) {
		l = append(l, flaw{inside(8, 1, f.b), f.want}, flaw{inside(12, 3, f.b), f.want}, flaw{all(tag(5, 2), chunk(inside(5, 1, f.b))), f.want}, flaw{all(tag(9, 2), chunk([]byte{18}, chunk(inside(5, 1, f.b)))), f.want})
	}
	return l
}

// TestP9_1First has two faults one behind the other: the first one in the order of bytes is told.
func TestP9_1First(t *testing.T) {
	good := all(tag(1, 0), digits(1), tag(8, 2), chunk(), tag(99, 5), make([]byte, 4), tag(9, 2), chunk())
	lookAtRead(t, wide(), 1, good, api.Msg{Fields: []api.Field{field(1, num(-1)), field(8, in(msg())), pairs(9, str(""), in(msg()))}, Unknown: []api.Entry{{Number: 99, Kind: api.Fix32}}})
	l := wholeFaults()
	for _, first := range l {
		lookAtFault(t, wide(), 1, first.b, first.want)
		lookAtFault(t, wide(), 1, all(good, first.b), first.want)
		lookAtFault(t, wide(), 1, all(good, first.b, good), first.want)
		lookAtFault(t, wide(), 1, all(first.b, []byte{8}), first.want)
		for _, second := range l {
			lookAtFault(t, wide(), 1, all(first.b, second.b), first.want)
		}
	}
}

// TestP9_1EndWithin has messages within whose bytes end too early, though more stand behind.
func TestP9_1EndWithin(t *testing.T) {
	for _, b := range [][]byte{{8}, {128}, {18}, {18, 1}, {49, 0, 0, 0, 0, 0, 0, 0}, {53, 0, 0, 0}, {50, 1}, {66, 1}, {74, 1}, tag(99, 0), all(tag(99, 2), []byte{1}), all(tag(99, 1), make([]byte, 7)), all(tag(99, 5), make([]byte, 3))} {
		for _, more := range [][]byte{nil, {1, 1, 1, 1, 1, 1, 1, 1}, {0}} {
			lookAtFault(t, wide(), 1, all(inside(8, 1, b), more), api.ErrEnd)
			lookAtFault(t, wide(), 1, all(inside(8, 3, b), more), api.ErrEnd)
			lookAtFault(t, wide(), 1, all(inside(12, 2, b), more), api.ErrEnd)
		}
		lookAtFault(t, wide(), 1, b, api.ErrEnd)
	}
}

func TestP9_1TooBig(t *testing.T) {
	most := all(tag(99, 2), digits(65531))
	most = append(most, make([]byte, 65536-len(most))...)
	lookAtRead(t, em(), 1, most, unknown(text(99, string(make([]byte, 65531)))))
	for _, b := range [][]byte{append(slices.Clip(most), 0), append(slices.Clip(most), 8, 1), make([]byte, 65537), bytes.Repeat([]byte{8}, 65537), bytes.Repeat([]byte{8, 1}, 40000), append([]byte{8}, inside(3, 16, make([]byte, 65536))...), make([]byte, 1<<20)} {
		lookAtFault(t, em(), 1, b, api.ErrTooBig)
	}
	lookAtFault(t, em(), 1, make([]byte, 65536), api.ErrNumber)
	lookAtRead(t, em(), 1, bytes.Repeat([]byte{8, 1}, 32768), msg(field(1, num(1))))
}
