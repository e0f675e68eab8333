package interp_test

import (
	"bytes"
	"slices"
	"testing"

	"cartouche/api"
	"cartouche/interp"
	"cartouche/samples"
)

func TestP9_2Examples(t *testing.T) {
	lookAtWritten(t, em(), 1, msg(field(1, num(0)), field(2, num(1), num(300))), []byte{18, 3, 1, 172, 2})
	lookAtWritten(t, em(), 1, msg(field(1, num(-1))), []byte{8, 255, 255, 255, 255, 255, 255, 255, 255, 255, 1})
	if n, e := interp.Size(em(), 1, msg(field(1, num(-1)))); n != 11 || e != api.OK {
		t.Errorf("Size: %d, error %d", n, e)
	}
}

// TestP9_2Values has values of each kind in fields of each label.
func TestP9_2Values(t *testing.T) {
	eachField(func(x api.Table, kind, label int) {
		good, bad := samples.Values(kind)
		own := tag(number, ownWire(kind))
		var several, row []byte
		for i, v := range good {
			b := all(own, bare(kind, v))
			several, row = all(several, b), all(row, bare(kind, v))
			switch {
			case label == api.Packed:
				b = all(tag(number, api.Chunk), chunk(bare(kind, v)))
			case label == api.Plain && i == 0:
				b = nil
			}
			lookAtWritten(t, x, around, msg(field(number, v)), b)
		}
		switch label {
		case api.Repeated:
			lookAtWritten(t, x, around, msg(field(number, good...)), several)
		case api.Packed:
			lookAtWritten(t, x, around, msg(field(number, good...)), all(tag(number, api.Chunk), chunk(row)))
		default:
			lookAtRefused(t, x, around, msg(field(number, good...)), api.ErrType)
			lookAtRefused(t, x, around, msg(field(number)), api.ErrType)
		}
		if isList(label) {
			lookAtWritten(t, x, around, msg(field(number)), nil)
			lookAtWritten(t, x, around, samples.Emptied(msg(field(number))), nil)
		}
		for _, v := range bad {
			lookAtRefused(t, x, around, msg(field(number, v)), api.ErrType)
		}
	})
}

// TestP9_2Maps has keys and values of each kind: both are told always, the defaults too.
func TestP9_2Maps(t *testing.T) {
	look := func(key, kind int, keys, vals []api.Val) {
		t.Helper()
		x := single(kind, api.Map, key)
		f := api.Field{Number: number, Keys: keys, Vals: vals}
		var want []byte
		for i, k := range keys {
			want = all(want, tag(number, api.Chunk), chunk(tag(1, ownWire(key)), bare(key, k), tag(2, ownWire(kind)), bare(kind, vals[i])))
		}
		lookAtWritten(t, x, around, msg(f), want)
	}
	for _, key := range samples.KeyKinds() {
		keys := samples.Rising(key)
		look(key, api.Bool, keys, make([]api.Val, len(keys)))
		look(key, api.Bool, nil, nil)
	}
	for kind := api.Bool; kind <= api.Message; kind++ {
		good, _ := samples.Values(kind)
		var keys []api.Val
		for i := range good {
			keys = append(keys, num(int64(i)))
		}
		look(api.Uint64, kind, keys, good)
		x := single(kind, api.Map, api.Uint64)
		lookAtRefused(t, x, around, msg(api.Field{Number: number, Keys: keys[1:], Vals: good}), api.ErrType)
		slices.Reverse(keys)
		lookAtRefused(t, x, around, msg(api.Field{Number: number, Keys: keys, Vals: good}), api.ErrType)
	}
}

// TestP9_2Order has fields by rising numbers, messages within, and behind all the unknown ones in their order.
func TestP9_2Order(t *testing.T) {
	low := api.Msg{Fields: []api.Field{field(2, num(1))}, Unknown: []api.Entry{varint(1, 5), text(2, "ab")}}
	lowBytes := []byte{21, 1, 0, 0, 0, 8, 5, 18, 2, 97, 98}
	m := api.Msg{Fields: []api.Field{
		field(1, num(-1)), field(2, str("a")), field(3, num(5)), field(4, num(0)), field(5, in(low)), field(6, num(1), num(0)), field(7, num(1)), field(8, in(msg()), in(unknown(varint(99, 1)))),
		pairs(9, str(""), in(msg()), str("b"), in(low)), pairs(10, num(-1), num(0)), field(11, num(0)), field(12, in(msg())), field(api.MaxNumber, str("z")),
	}, Unknown: []api.Entry{varint(1<<20, 1), varint(1, 3), text(5, ""), {Number: 4, Kind: api.Fix64, N: 1}, varint(1<<20, 1)}}
	want := all(
		[]byte{8, 1, 18, 1, 97, 24, 5, 32, 0}, []byte{42}, chunk(lowBytes), []byte{53, 1, 0, 0, 0, 53, 0, 0, 0, 0}, []byte{58, 8, 1, 0, 0, 0, 0, 0, 0, 0}, []byte{66, 0, 66, 3, 152, 6, 1},
		[]byte{74, 4, 10, 0, 18, 0}, []byte{74}, chunk([]byte{10, 1, 98, 18}, chunk(lowBytes)), []byte{82}, chunk([]byte{8}, longest, []byte{1, 16, 0}), []byte{88, 0, 98, 0}, tag(api.MaxNumber, 2), []byte{1, 122},
		tag(1<<20, 0), []byte{1, 8, 3, 42, 0, 33, 1, 0, 0, 0, 0, 0, 0, 0}, tag(1<<20, 0), []byte{1})
	lookAtWritten(t, wide(), 1, m, want)
	lookAtWritten(t, wide(), 1, samples.Nested(8, 3, m), inside(8, 3, want))
	lookAtWritten(t, wide(), 1, samples.Emptied(m), want)
	lookAtWritten(t, wide(), 1, msg(), nil)
	lookAtWritten(t, wide(), 1, msg(field(3, num(0)), field(api.MaxNumber, str(""))), nil)
	lookAtWritten(t, wide(), 1, msg(field(8, in(msg(field(1, num(0)), field(6))))), []byte{66, 0}) // the default is not told within
}

func TestP9_2Depth(t *testing.T) {
	for _, n := range []int{8, 12} {
		for around := range 16 {
			lookAtWritten(t, wide(), 1, samples.Nested(n, around, msg(field(1, num(-1)))), inside(n, around, []byte{8, 1}))
		}
		for _, around := range []int{16, 17, 100, 1 << 15} {
			lookAtRefused(t, wide(), 1, samples.Nested(n, around, msg()), api.ErrTooDeep)
		}
	}
	inMap := func(m api.Msg) api.Msg { return msg(pairs(9, str(""), in(msg(field(5, in(m)))))) }
	if b, e := interp.Encode(wide(), 1, inMap(samples.Nested(8, 13, msg()))); e != api.OK || len(b) == 0 {
		t.Errorf("a map's value at the greatest depth: error %d", e)
	}
	lookAtRefused(t, wide(), 1, inMap(samples.Nested(8, 14, msg())), api.ErrTooDeep)
	lookAtRefused(t, wide(), 1, msg(field(8, in(msg()), in(samples.Nested(8, 15, msg())))), api.ErrTooDeep)
}

// sized tells messages of W whose bytes are so many, which are more than 2^14 and below 2^28.
func sized(size int) []api.Msg {
	behind := func(ahead int) string { return string(make([]byte, size-ahead)) }
	head := 1 // a tag's byte, and those of a chunk's size
	for rest := size - 1; rest > 0; rest >>= 7 {
		head++
	}
	l := []api.Msg{
		unknown(text(9, behind(head))),
		msg(field(2, str(behind(head)))),
		{Fields: []api.Field{field(1, num(-1))}, Unknown: []api.Entry{text(9, behind(2+head))}},
		msg(field(8, in(msg(field(2, str(behind(2*head))))))),
		msg(field(8, in(msg()), in(msg()), in(msg(field(2, str(behind(4+2*head))))))),
		samples.Nested(8, 15, msg(field(2, str(behind(16*head))))),
		msg(pairs(10, num(0), num(0), num(1), num(0)), field(14, str(behind(12+head)))),
		msg(pairs(9, str(behind(2*head+2)), in(msg()))),
		msg(pairs(9, str(""), in(unknown(text(9, behind(2*head+2+head)))))),
	}
	if size < 1<<20 { // half of it in many values
		count := size / 10
		l = append(l, msg(field(6, slices.Repeat([]api.Val{num(1)}, count)...), field(14, str(behind(5*count+head)))))
	}
	return l
}

func TestP9_2TooBig(t *testing.T) {
	for _, m := range sized(api.MaxMessage) {
		lookAtWritten(t, wide(), 1, m, writeAgain(wide(), 1, m))
		if n := len(writeAgain(wide(), 1, m)); n != api.MaxMessage {
			t.Errorf("%s has %d bytes", shortly(m), n)
		}
	}
	for _, more := range []int{1, 2, 100, 1 << 20} {
		for _, m := range sized(api.MaxMessage + more) {
			if b, e := interp.Encode(wide(), 1, m); e != api.ErrTooBig || len(b) > 0 {
				t.Errorf("Encode of %d bytes too many: %d bytes, error %d", more, len(b), e)
			}
			if n, e := interp.Size(wide(), 1, m); e != api.OK || n != api.MaxMessage+more {
				t.Errorf("Size of %d bytes too many: %d, error %d", more, n, e)
			}
		}
	}
}

func TestP9_2Size(t *testing.T) {
	for _, m := range sized(api.MaxSize) {
		if n, e := interp.Size(wide(), 1, m); e != api.OK || n != api.MaxSize {
			t.Errorf("Size of MaxSize: %d, error %d", n, e)
		}
		if b, e := interp.Encode(wide(), 1, m); e != api.ErrTooBig || len(b) > 0 {
			t.Errorf("Encode of MaxSize: %d bytes, error %d", len(b), e)
		}
	}
	for _, more := range []int{1, 2, 1 << 20} {
		for _, m := range sized(api.MaxSize + more) {
			lookAtRefused(t, wide(), 1, m, api.ErrTooBig)
		}
	}
}

// TestP9_2First has messages with several errors: not typed ahead of too deep ahead of too big.
func TestP9_2First(t *testing.T) {
	big := unknown(text(9, string(make([]byte, api.MaxSize))))
	bigAnd := func(m api.Msg) api.Msg {
		m.Unknown = big.Unknown
		return m
	}
	deep, wrong := samples.Nested(8, 16, msg()), msg(field(1, num(1), num(2)))
	lookAtRefused(t, wide(), 1, bigAnd(msg()), api.ErrTooBig)
	lookAtRefused(t, wide(), 1, bigAnd(deep), api.ErrTooDeep)
	lookAtRefused(t, wide(), 1, samples.Nested(8, 16, big), api.ErrTooDeep)
	lookAtRefused(t, wide(), 1, bigAnd(wrong), api.ErrType)
	lookAtRefused(t, wide(), 1, samples.Nested(8, 16, wrong), api.ErrType)
	lookAtRefused(t, wide(), 1, samples.Nested(8, 16, bigAnd(wrong)), api.ErrType)
	lookAtRefused(t, wide(), 1, samples.Nested(8, 1000, wrong), api.ErrType)
}

// TestP9_2Rows has rows of as many values as there may be, and of more.
func TestP9_2Rows(t *testing.T) {
	row := func(count int) api.Msg { return msg(field(2, slices.Repeat([]api.Val{num(1)}, count)...)) }
	lookAtWritten(t, em(), 1, row(65532), all([]byte{18, 252, 255, 3}, bytes.Repeat([]byte{1}, 65532)))
	for _, count := range []int{65533, 1 << 19} {
		if b, e := interp.Encode(em(), 1, row(count)); e != api.ErrTooBig || len(b) > 0 {
			t.Errorf("Encode of %d values: %d bytes, error %d", count, len(b), e)
		}
		if n, e := interp.Size(em(), 1, row(count)); e != api.OK || n != 4+count {
			t.Errorf("Size of %d values: %d, error %d", count, n, e)
		}
	}
}

func TestP9_2NewMemory(t *testing.T) {
	m := msg(field(14, str("abc")))
	one, _ := interp.Encode(wide(), 1, m)
	two, _ := interp.Encode(wide(), 1, m)
	clear(one[:cap(one)])
	if !bytes.Equal(two, []byte{114, 3, 97, 98, 99}) || string(m.Fields[0].Vals[0].B) != "abc" {
		t.Error("answers share memory")
	}
}
