package interp_test

import (
	"bytes"
	"testing"

	"cartouche/api"
	"cartouche/interp"
	"cartouche/model"
	"cartouche/samples"
)

func TestP9_3Entries(t *testing.T) {
	for _, row := range []struct {
		b              []byte
		known, unknown int
	}{
		{nil, 0, 0}, {[]byte{8, 5, 24, 7}, 1, 1}, {[]byte{8, 5, 8, 5}, 2, 0}, {[]byte{18, 2, 1, 2}, 1, 0}, {[]byte{18, 0, 16, 1, 18, 1, 1}, 3, 0}, {[]byte{26, 4, 24, 7, 8, 1}, 1, 0},
		{[]byte{26, 6, 24, 7, 26, 2, 32, 1, 32, 1}, 1, 1}, {[]byte{10, 0, 13, 0, 0, 0, 0, 32, 1, 34, 2, 8, 1}, 0, 4}, {bytes.Repeat([]byte{24, 1}, 32768), 0, 32768}, {bytes.Repeat([]byte{26, 0}, 32768), 32768, 0},
	} {
		if known, unknown, e := interp.Entries(em(), 1, row.b); e != api.OK || known != row.known || unknown != row.unknown {
			t.Errorf("Entries(% d): %d, %d, error %d; want %d, %d", row.b[:min(len(row.b), 30)], known, unknown, e, row.known, row.unknown)
		}
	}
	w := all(tag(9, 2), chunk([]byte{24, 1}), tag(9, 0), []byte{1}, tag(10, 2), chunk(), tag(11, 0), []byte{1}, tag(13, 2), chunk(), tag(13, 5), make([]byte, 4), tag(6, 2), chunk(make([]byte, 12)))
	if known, unknown, e := interp.Entries(wide(), 1, w); e != api.OK || known != 5 || unknown != 2 {
		t.Errorf("Entries of W: %d, %d, error %d", known, unknown, e)
	}
}

// TestP9_4Read: what Decode tells is typed, and what is written of it is read as it, without what is not told.
func TestP9_4Read(t *testing.T) {
	m := samples.New(94)
	reads := 0
	for range 8000 {
		x := m.Table()
		b := m.Bytes(x, 0, 4)
		if m.Below(4) == 0 {
			b = m.Bent(b)
		}
		a, e := interp.Decode(x, 0, b)
		if e != api.OK {
			continue
		}
		reads++
		if ok, e := model.Typed(x, 0, a); !ok || e != api.OK {
			t.Errorf("Decode(% d): %s is not typed", b, told(a))
		}
		settled, _ := model.Settle(x, 0, a)
		written, e := interp.Encode(x, 0, a)
		back, e2 := interp.Decode(x, 0, written)
		if e != api.OK || e2 != api.OK || !model.Equal(back, settled) {
			t.Errorf("%s: written % d, error %d, and read %s, error %d; want %s", told(a), written, e, told(back), e2, told(settled))
		}
	}
	if reads < 5000 {
		t.Errorf("%d byte strings were read", reads)
	}
}

// TestP9_4Back: of a normal message Decode of Encode is it (T3).
func TestP9_4Back(t *testing.T) {
	m := samples.New(95)
	backs := 0
	for range 6000 {
		x := m.Table()
		a, _ := model.Settle(x, 0, m.Message(x, 0, 5))
		b, e := interp.Encode(x, 0, a)
		if n, _ := interp.Size(x, 0, a); n > api.MaxMessage && e == api.ErrTooBig {
			continue
		}
		backs++
		back, e2 := interp.Decode(x, 0, b)
		if e != api.OK || e2 != api.OK || !model.Equal(back, a) {
			t.Errorf("%s: written % d, error %d, and read %s, error %d", told(a), b, e, told(back), e2)
		}
	}
	if backs < 5000 {
		t.Errorf("%d messages were read back", backs)
	}
	for _, l := range [][]api.Msg{sized(api.MaxMessage), {samples.Nested(8, 15, unknown(varint(99, 1), text(98, "a"), varint(99, 0)))}} {
		for _, a := range l {
			a, _ = model.Settle(wide(), 1, a)
			b, e := interp.Encode(wide(), 1, a)
			back, e2 := interp.Decode(wide(), 1, b)
			if e != api.OK || e2 != api.OK || !model.Equal(back, a) {
				t.Errorf("%s: error %d, error %d", shortly(a), e, e2)
			}
		}
	}
}

// TestP9_4Both: of bytes a, b that both are read, Decode of a b is the merge of both (T4).
func TestP9_4Both(t *testing.T) {
	m := samples.New(96)
	reads := 0
	for range 6000 {
		x := m.Table()
		a, b := m.Bytes(x, 0, 4), m.Bytes(x, 0, 4)
		first, e1 := interp.Decode(x, 0, a)
		second, e2 := interp.Decode(x, 0, b)
		if e1 != api.OK || e2 != api.OK {
			continue
		}
		reads++
		both, e := interp.Decode(x, 0, all(a, b))
		if want := samples.Merged(x, 0, first, second); e != api.OK || !model.Equal(both, want) {
			t.Errorf("% d and % d: %s, error %d; want %s; table %+v", a, b, told(both), e, told(want), x)
		}
	}
	if reads < 4000 {
		t.Errorf("%d times both were read", reads)
	}
}

// TestP9_4Longer has bytes within the bounds, of which what is read is more: values in a row that are told one by one, and map entries that lacked a part.
func TestP9_4Longer(t *testing.T) {
	var keys []byte
	for i := range uint64(13000) {
		keys = append(keys, all(tag(10, 2), chunk(tag(1, 0), digits(i)))...)
	}
	for _, row := range []struct {
		b    []byte
		size int
		want api.Errno
	}{
		{all(tag(6, 2), chunk(make([]byte, 65532))), 16383 * 5, api.ErrTooBig},
		{all(tag(6, 2), chunk(make([]byte, 65532/5*4))), 65532 / 5 * 5, api.OK},
		{keys, len(keys) + 2*13000, api.ErrTooBig},
		{all(tag(10, 2), chunk()), 6, api.OK},
		{all(tag(9, 2), chunk(tag(2, 2), chunk())), 6, api.OK},
	} {
		a, e := interp.Decode(wide(), 1, row.b)
		if e != api.OK {
			t.Errorf("%d bytes: error %d", len(row.b), e)
		}
		n, e := interp.Size(wide(), 1, a)
		_, e2 := interp.Encode(wide(), 1, a)
		if e != api.OK || n != row.size || n <= len(row.b) || e2 != row.want {
			t.Errorf("%d bytes: what is read has %d, error %d; written: error %d", len(row.b), n, e, e2)
		}
	}
}
