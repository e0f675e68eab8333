package interp_test

import (
	"slices"
	"testing"

	"cartouche/api"
	"cartouche/samples"
)

// TestP9_1Depth has messages in fields of each label at the greatest depth, and one deeper.
func TestP9_1Depth(t *testing.T) {
	w := wide()
	for _, n := range []int{8, 12} {
		lookAtRead(t, w, 1, inside(n, 15, nil), samples.Nested(n, 15, msg()))
		lookAtRead(t, w, 1, inside(n, 15, []byte{8, 2, 152, 6, 1}), samples.Nested(n, 15, api.Msg{Fields: []api.Field{field(1, num(1))}, Unknown: []api.Entry{varint(99, 1)}}))
		lookAtFault(t, w, 1, inside(n, 16, nil), api.ErrTooDeep)
		lookAtFault(t, w, 1, inside(n, 40, nil), api.ErrTooDeep)
		lookAtFault(t, w, 1, inside(n, 16, []byte{0}), api.ErrTooDeep) // it is not entered
	}
	lookAtRead(t, em(), 1, inside(3, 15, nil), samples.Nested(3, 15, msg()))
	lookAtFault(t, em(), 1, inside(3, 16, nil), api.ErrTooDeep)
	lookAtFault(t, em(), 1, inside(3, 15, []byte{26, 1}), api.ErrEnd) // the chunk's errors stand ahead
	lookAtFault(t, em(), 1, inside(3, 15, all([]byte{26}, longest, []byte{2})), api.ErrVarint)
	lookAtFault(t, em(), 1, inside(3, 15, []byte{26, 1, 0}), api.ErrTooDeep)
	lookAtFault(t, em(), 1, inside(3, 15, []byte{8, 1, 26, 0, 0}), api.ErrTooDeep)
	lookAtFault(t, em(), 1, inside(3, 15, []byte{0, 26, 0}), api.ErrNumber)
	lookAtRead(t, em(), 1, all(inside(3, 15, nil), inside(3, 15, []byte{8, 1})), samples.Nested(3, 15, msg(field(1, num(1)))))
}

// keyed is a table with a message M in which 1 is an M, 2 a map of Ms, 3 a map of Bools.
func keyed() api.Table {
	return samples.Table(samples.Message("M",
		api.FieldType{Name: "m", Number: 1, Kind: api.Message, Label: api.Optional},
		api.FieldType{Name: "k", Number: 2, Kind: api.Message, Label: api.Map, Key: api.Bool},
		api.FieldType{Name: "q", Number: 3, Kind: api.Bool, Label: api.Map, Key: api.Bool}))
}

func TestP9_1DepthOfMaps(t *testing.T) {
	for _, row := range []struct {
		around int
		b      []byte
		want   api.Errno
	}{
		{14, []byte{18, 0}, api.OK}, {14, []byte{18, 2, 18, 0}, api.OK}, {14, []byte{18, 4, 8, 1, 18, 0}, api.OK},
		{15, []byte{18, 0}, api.ErrTooDeep}, {15, []byte{18, 2, 18, 0}, api.ErrTooDeep}, {15, []byte{18, 2, 8, 1}, api.ErrTooDeep},
		{15, []byte{18, 2, 8, 2}, api.ErrRange},          // behind the entry's bytes alone
		{15, []byte{18, 4, 8, 1, 24, 0}, api.ErrTooDeep}, // what is dropped is no message
		{15, []byte{18, 4, 18, 0, 8, 2}, api.ErrTooDeep}, // where its chunk stands
		{15, []byte{18, 4, 8, 2, 18, 0}, api.ErrRange}, {15, []byte{18, 1, 8}, api.ErrEnd}, {15, []byte{18, 2, 18, 1}, api.ErrEnd}, {15, []byte{18, 1}, api.ErrEnd}, {15, []byte{18, 2, 16, 0}, api.ErrTooDeep},
		{15, []byte{18, 2, 8, 1, 0}, api.ErrTooDeep}, {15, []byte{18, 0, 0}, api.ErrTooDeep}, {15, []byte{0, 18, 0}, api.ErrNumber}, {15, []byte{18, 1, 0}, api.ErrNumber}, {15, []byte{18, 1, 11}, api.ErrKind},
		{15, []byte{26, 0}, api.OK}, {15, []byte{26, 4, 8, 1, 16, 1}, api.OK}, {15, []byte{26, 2, 18, 0}, api.OK},
		{13, []byte{18, 4, 18, 2, 18, 0}, api.OK}, {14, []byte{18, 4, 18, 2, 18, 0}, api.ErrTooDeep}, {14, []byte{18, 4, 18, 2, 10, 0}, api.ErrTooDeep}, {13, []byte{18, 4, 18, 2, 10, 0}, api.OK},
	} {
		b := inside(1, row.around, row.b)
		if row.want != api.OK {
			lookAtFault(t, keyed(), 0, b, row.want)
			continue
		}
		want, e := readAgain(keyed(), 0, b)
		if e != api.OK {
			t.Errorf("% d: error %d", b, e)
		}
		lookAtRead(t, keyed(), 0, b, want)
	}
	lookAtRead(t, keyed(), 0, inside(1, 14, []byte{18, 0}), samples.Nested(1, 14, msg(pairs(2, num(0), in(msg())))))
}

// TestP9_1PutIn puts in behind one another what each label says.
func TestP9_1PutIn(t *testing.T) {
	w := wide()
	v := func(b ...byte) []byte { return b }
	one := []byte{0, 0, 128, 63} // a Float's 1
	x := field(2, num(0x3f800000))
	for _, row := range []struct {
		what string
		b    []byte
		want api.Msg
	}{
		{"Plain: in place", all(tag(1, 0), v(2), tag(1, 0), v(4)), msg(field(1, num(2)))},
		{"Plain: the default too", all(tag(1, 0), v(2), tag(1, 0), v(0)), msg(field(1, num(0)))},
		{"Plain: a text", all(tag(2, 2), v(1, 97), tag(2, 2), v(0)), msg(field(2, str("")))},
		{"Optional: in place", all(tag(4, 0), v(1), tag(4, 0), v(0)), msg(field(4, num(0)))},
		{"Optional: a message is merged", all(tag(5, 2), chunk(tag(2, 5), one), tag(5, 2), chunk(tag(5, 2), chunk(tag(1, 0), v(2)))), msg(field(5, in(msg(x, field(5, in(msg(field(1, num(1)))))))))},
		{"Optional: merged within", all(tag(5, 2), chunk(tag(5, 2), chunk(tag(1, 0), v(2), tag(2, 2), v(1, 97))), tag(5, 2), chunk(tag(5, 2), chunk(tag(1, 0), v(4)))), msg(field(5, in(msg(field(5, in(msg(field(1, num(2)), field(2, str("a")))))))))},
		{"Optional: nothing merged", all(tag(5, 2), chunk(tag(2, 5), one), tag(5, 2), chunk()), msg(field(5, in(msg(x))))},
		{"Optional: merged into nothing", all(tag(5, 2), chunk(), tag(5, 2), chunk(tag(2, 5), one)), msg(field(5, in(msg(x))))},
		{"Optional: unknown ones of both", all(tag(5, 2), chunk(v(8, 1)), tag(5, 2), chunk(v(8, 2))), msg(field(5, in(unknown(varint(1, 1), varint(1, 2)))))},
		{"Repeated: behind", all(tag(6, 5), v(1, 0, 0, 0), tag(6, 5), v(0, 0, 0, 0), tag(6, 5), v(1, 0, 0, 0)), msg(field(6, num(1), num(0), num(1)))},
		{"Repeated: rows", all(tag(6, 2), chunk(v(1, 0, 0, 0, 2, 0, 0, 0)), tag(6, 5), v(3, 0, 0, 0), tag(6, 2), chunk(), tag(6, 2), chunk(v(4, 0, 0, 0))), msg(field(6, num(1), num(2), num(3), num(4)))},
		{"Repeated: a row without values", all(tag(6, 2), chunk()), msg(field(6))},
		{"Repeated: a row without values behind one", all(tag(6, 5), v(1, 0, 0, 0), tag(6, 2), chunk()), msg(field(6, num(1)))},
		{"Packed: a row without values", all(tag(7, 2), chunk(), tag(7, 2), chunk()), msg(field(7))},
		{"Packed: both ways", all(tag(7, 1), v(1, 0, 0, 0, 0, 0, 0, 0), tag(7, 2), chunk(v(2, 0, 0, 0, 0, 0, 0, 0))), msg(field(7, num(1), num(2)))},
		{"Repeated: messages are not merged", all(tag(8, 2), chunk(v(8, 2)), tag(8, 2), chunk(v(18, 1, 97)), tag(8, 2), chunk()), msg(field(8, in(msg(field(1, num(1)))), in(msg(field(2, str("a")))), in(msg())))},
		{"Member: in place of itself", all(tag(11, 0), v(1), tag(11, 0), v(0)), msg(field(11, num(0)))},
		{"Member: in place of another one", all(tag(11, 0), v(1), tag(13, 2), chunk()), msg(field(13, in(msg())))},
		{"Member: back", all(tag(11, 0), v(1), tag(13, 2), chunk(), tag(11, 0), v(2)), msg(field(11, num(2)))},
		{"Member: a message anew", all(tag(13, 2), chunk(tag(2, 5), one), tag(13, 2), chunk(v(8, 2))), msg(field(13, in(unknown(varint(1, 2)))))},
		{"Member: anew without anything", all(tag(13, 2), chunk(tag(2, 5), one), tag(13, 2), chunk()), msg(field(13, in(msg())))},
		{"Member: two oneofs", all(tag(11, 0), v(1), tag(14, 2), v(1, 97), tag(12, 2), chunk(), tag(13, 2), chunk()), msg(field(12, in(msg())), field(13, in(msg())))},
		{"Member: others stay", all(tag(4, 0), v(1), tag(14, 2), v(0), tag(12, 2), chunk(v(90, 0)), tag(5, 2), chunk()), msg(field(4, num(1)), field(5, in(msg())), field(12, in(unknown(text(11, "")))))},
		{"Member: not taken, so not in place", all(tag(11, 0), v(1), tag(13, 0), v(2)), api.Msg{Fields: []api.Field{field(11, num(1))}, Unknown: []api.Entry{varint(13, 2)}}},
		{"fields by rising numbers", all(tag(api.MaxNumber, 2), v(0), tag(14, 2), v(0), tag(4, 0), v(0), tag(8, 2), v(0), tag(1, 0), v(0), tag(6, 2), v(0)), msg(field(1, num(0)), field(4, num(0)), field(6), field(8, in(msg())), field(14, str("")), field(api.MaxNumber, str("")))},
	} {
		if got, e := readAgain(w, 1, row.b); e != api.OK || told(got) != told(row.want) {
			t.Errorf("%s: read again: %s, error %d", row.what, told(got), e)
		}
		lookAtRead(t, w, 1, row.b, row.want)
		lookAtRead(t, w, 1, inside(8, 1, row.b), msg(field(8, in(row.want))))
	}
}

func TestP9_1PutInMaps(t *testing.T) {
	w := wide()
	one := field(2, num(0x3f800000))
	x := []byte{21, 0, 0, 128, 63}
	entry := func(l ...[]byte) []byte { return all(tag(9, 2), chunk(l...)) }
	key := func(s string) []byte { return all(tag(1, 2), chunk([]byte(s))) }
	val := func(l ...[]byte) []byte { return all(tag(2, 2), chunk(l...)) }
	number := func(l ...byte) []byte { return all(tag(10, 2), chunk(l)) }
	for _, row := range []struct {
		what string
		b    []byte
		want api.Field
	}{
		{"one", entry(key("a"), val(x)), pairs(9, str("a"), in(msg(one)))},
		{"the value first", entry(val(x), key("a")), pairs(9, str("a"), in(msg(one)))},
		{"nothing", entry(), pairs(9, str(""), in(msg()))},
		{"a key alone", entry(key("a")), pairs(9, str("a"), in(msg()))},
		{"a value alone", entry(val(x)), pairs(9, str(""), in(msg(one)))},
		{"two keys: the last one", entry(key("a"), key("b"), val(x)), pairs(9, str("b"), in(msg(one)))},
		{"two values: the last one, anew", entry(val(x), key("a"), val([]byte{8, 1})), pairs(9, str("a"), in(unknown(varint(1, 1))))},
		{"two values: anew without anything", entry(val(x), val()), pairs(9, str(""), in(msg()))},
		{"others are dropped", entry(tag(3, 0), []byte{1}, key("a"), tag(1, 0), []byte{7}, val(x), tag(2, 0), []byte{7}, tag(2, 5), x[1:], tag(api.MaxNumber, 2), chunk(key("b"))), pairs(9, str("a"), in(msg(one)))},
		{"in place, not merged", all(entry(key("a"), val(x)), entry(key("a"), val([]byte{8, 1}))), pairs(9, str("a"), in(unknown(varint(1, 1))))},
		{"in place by what lacks", all(entry(key("a"), val(x)), entry(key("a"))), pairs(9, str("a"), in(msg()))},
		{"at its place", all(entry(key("b")), entry(key("a"), val(x)), entry(key("")), entry(key("ab")), entry(key("c")), entry(key("b"), val(x))), pairs(9, str(""), in(msg()), str("a"), in(msg(one)), str("ab"), in(msg()), str("b"), in(msg(one)), str("c"), in(msg()))},
		{"a nought's key twice", all(entry(), entry(key(""), val(x))), pairs(9, str(""), in(msg(one)))},
		{"numbers", all(number(8, 5, 16, 5), number(8, 3, 16, 0), number(8, 5, 16, 0), number(16, 5), number(8, 4)), pairs(10, num(0), num(5), num(3), num(0), num(4), num(0), num(5), num(0))},
		{"numbers below 0 stand ahead", all(number(8, 1), all(tag(10, 2), chunk([]byte{8}, longest, []byte{1})), number(8, 0)), pairs(10, num(-1), num(0), num(0), num(0), num(1), num(0))},
		{"of several the last one of each", number(8, 1, 8, 2, 16, 5, 8, 3, 16, 0), pairs(10, num(3), num(0))},
	} {
		if got, e := readAgain(w, 1, row.b); e != api.OK || told(got) != told(msg(row.want)) {
			t.Errorf("%s: read again: %s, error %d", row.what, told(got), e)
		}
		lookAtRead(t, w, 1, row.b, msg(row.want))
		lookAtRead(t, w, 1, inside(12, 2, row.b), samples.Nested(12, 2, msg(row.want)))
		again := all(tag(5, 2), chunk(tag(5, 2), chunk(row.b)))
		lookAtRead(t, w, 1, all(again, again, again), msg(field(5, in(msg(field(5, in(msg(row.want)))))))) // merged with itself
	}
	lookAtRead(t, w, 1, all(tag(9, 0), []byte{1}, tag(10, 5), make([]byte, 4)), unknown(varint(9, 1), api.Entry{Number: 10, Kind: api.Fix32}))
}

// TestP9_1ManyKeys has keys that fall, rise, and come again, in one message and merged from many.
func TestP9_1ManyKeys(t *testing.T) {
	x := samples.Table(samples.Message("M",
		api.FieldType{Name: "m", Number: 1, Kind: api.Message, Label: api.Optional},
		api.FieldType{Name: "k", Number: 2, Kind: api.Uint32, Label: api.Map, Key: api.Uint32}))
	const count = 1000
	rising := api.Field{Number: 2}
	var down, up, merged []byte
	for i := range uint64(count) {
		entry := func(n uint64) []byte { return all(tag(2, 2), chunk(tag(1, 0), digits(n), tag(2, 0), digits(i))) }
		down, up = append(down, entry(count-1-i)...), append(up, entry(i)...)
		merged = append(merged, inside(1, 1, entry(i*7%count))...)
		rising.Keys, rising.Vals = append(rising.Keys, num(int64(i))), append(rising.Vals, num(int64(i)))
	}
	falling := api.Field{Number: 2, Keys: rising.Keys, Vals: slices.Clone(rising.Vals)}
	slices.Reverse(falling.Vals)
	lookAtRead(t, x, 0, up, msg(rising))
	lookAtRead(t, x, 0, down, msg(falling))
	lookAtRead(t, x, 0, all(up, down), msg(falling))
	lookAtRead(t, x, 0, all(down, up), msg(rising))
	back, e := readAgain(x, 0, merged)
	if e != api.OK || len(back.Fields[0].Vals[0].M[0].Fields[0].Keys) != count {
		t.Errorf("read again: error %d", e)
	}
	lookAtRead(t, x, 0, merged, back)
}

// TestP9_1Taken has an entry of each wire kind at a field of each kind and label: it is a value, a row, or not known.
func TestP9_1Taken(t *testing.T) {
	bytesOf := func(kind int) []byte { return [][]byte{{1}, make([]byte, 8), {0}, nil, nil, make([]byte, 4)}[kind] }
	look := func(x api.Table, kind, label int) {
		t.Helper()
		for _, w := range []int{api.Varint, api.Fix64, api.Chunk, api.Fix32} {
			isRow := isList(label) && w == api.Chunk && ownWire(kind) != api.Chunk
			isValue := w == ownWire(kind)
			if label == api.Map {
				isValue = w == api.Chunk
			}
			b := all(tag(number, w), bytesOf(w))
			if kind == api.Enum && w == api.Varint {
				b = []byte{56, 5}
			}
			got, e := readAgain(x, around, b)
			if e != api.OK || (len(got.Fields) == 1) != (isRow || isValue) || len(got.Fields) == 1 && (len(got.Fields[0].Vals) == 1) != isValue || len(got.Fields)+len(got.Unknown) != 1 {
				t.Errorf("kind %d, label %d, wire kind %d: read again: %s, error %d", kind, label, w, told(got), e)
			}
			lookAtRead(t, x, around, b, got)
			lookAtRead(t, x, around, all(b, tag(number-1, w), bytesOf(w)), api.Msg{Fields: got.Fields, Unknown: append(got.Unknown, last(t, all(tag(number-1, w), bytesOf(w))))})
		}
	}
	eachField(look)
	for kind := api.Bool; kind <= api.Message; kind++ {
		look(single(kind, api.Map, api.Sint64), kind, api.Map)
	}
}

// TestP9_1Unknown has entries that no field takes: they stay, in order, with all that they hold.
func TestP9_1Unknown(t *testing.T) {
	l := []api.Entry{varint(4, 0), varint(3, 7), text(1, "\xff"), {Number: 1, Kind: api.Fix32, N: 1<<32 - 1}, {Number: 2, Kind: api.Fix64, N: 1<<64 - 1}, varint(4, 0), text(api.MaxNumber, ""), varint(api.MaxNumber, 1<<64-1), text(4, "abc"), {Number: 3, Kind: api.Fix32}}
	var b, mixed []byte
	for i, x := range l {
		own := all(tag(x.Number, x.Kind), samples.Behind(x))
		b = all(b, own)
		mixed = all(mixed, own, tag(1, 0), []byte{byte(i)})
	}
	lookAtRead(t, em(), 1, b, unknown(l...))
	lookAtRead(t, em(), 1, mixed, api.Msg{Fields: []api.Field{field(1, num(int64(len(l)-1)))}, Unknown: l})
	lookAtRead(t, em(), 1, inside(3, 2, b), samples.Nested(3, 2, unknown(l...)))
	lookAtRead(t, em(), 1, all(b, inside(3, 1, b), b), api.Msg{Fields: []api.Field{field(3, in(unknown(l...)))}, Unknown: slices.Concat(l, l)})
	lookAtRead(t, em(), 1, []byte{0x88, 0x80, 0, 0x85, 0x80, 0, 0xa0, 0x80, 0, 0x85, 0}, api.Msg{Fields: []api.Field{field(1, num(5))}, Unknown: []api.Entry{varint(4, 5)}}) // more digits than need be
	lookAtRead(t, wide(), 2, []byte{64, 1}, unknown(varint(8, 1)))                                                                                                           // a reserved number
}
