package scalar_test

import (
	"bytes"
	"encoding/binary"
	"math"
	"testing"

	"cartouche/api"
	"cartouche/scalar"
)

func wantPut(t *testing.T, kind int, v api.Val, want []byte, e api.Errno) {
	t.Helper()
	if b, gotE := scalar.Put(kind, v); !bytes.Equal(b, want) || gotE != e {
		t.Errorf("Put(%d, %v) = %v, %d; want %v, %d", kind, v, b, gotE, want, e)
	}
}

func sameVal(v, w api.Val) bool {
	return v.N == w.N && bytes.Equal(v.B, w.B) && len(v.M) == 0 && len(w.M) == 0
}

func wantGet(t *testing.T, kind int, b []byte, at int, v api.Val, next int, e api.Errno) {
	t.Helper()
	if got, gotNext, gotE := scalar.Get(kind, b, at); !sameVal(got, v) || gotNext != next || gotE != e {
		t.Errorf("Get(%d, %v, %d) = %v, %d, %d; want %v, %d, %d", kind, b, at, got, gotNext, gotE, v, next, e)
	}
}

func refused(t *testing.T, kind int, b []byte, e api.Errno) {
	t.Helper()
	wantGet(t, kind, b, 0, api.Val{}, 0, e)
	wantGet(t, kind, append([]byte{255, 1}, b...), 2, api.Val{}, 0, e)
}

// told is a number's bytes by the document's words alone.
func told(r row, n uint64) []byte {
	switch {
	case r.wire == api.Fix32:
		return binary.LittleEndian.AppendUint32(nil, uint32(n))
	case r.wire == api.Fix64:
		return binary.LittleEndian.AppendUint64(nil, n)
	case r.kind == api.Sint32, r.kind == api.Sint64:
		return binary.AppendVarint(nil, int64(n))
	}
	return binary.AppendUvarint(nil, n)
}

func TestP3_2Examples(t *testing.T) {
	wantPut(t, api.Int32, number(-1), []byte{255, 255, 255, 255, 255, 255, 255, 255, 255, 1}, api.OK)
	wantPut(t, api.Int64, number(-1), []byte{255, 255, 255, 255, 255, 255, 255, 255, 255, 1}, api.OK)
	wantPut(t, api.Sint32, number(-1), []byte{1}, api.OK)
	wantPut(t, api.Sint64, number(-1), []byte{1}, api.OK)
	wantPut(t, api.Bool, number(2), nil, api.ErrRange)
	wantPut(t, api.Sfixed32, number(-2), []byte{254, 255, 255, 255}, api.OK)
	wantPut(t, api.Sfixed64, number(-1), []byte{255, 255, 255, 255, 255, 255, 255, 255}, api.OK)
	wantPut(t, api.Float, api.Val{N: uint64(math.Float32bits(1))}, []byte{0, 0, 128, 63}, api.OK)
	wantPut(t, api.Double, api.Val{N: math.Float64bits(1)}, []byte{0, 0, 0, 0, 0, 0, 240, 63}, api.OK)
	wantPut(t, api.String, text("\xff"), nil, api.ErrText)
	wantPut(t, api.Bytes, text("\xff"), []byte{1, 255}, api.OK)
	wantGet(t, api.Uint32, []byte{255, 255, 255, 255, 15}, 0, api.Val{N: all32}, 5, api.OK)
	wantGet(t, api.Sfixed32, []byte{255, 255, 255, 255}, 0, number(-1), 4, api.OK)
	wantGet(t, api.Fixed32, []byte{255, 255, 255, 255}, 0, api.Val{N: all32}, 4, api.OK)
	wantGet(t, api.Float, []byte{255, 255, 255, 255}, 0, api.Val{N: all32}, 4, api.OK)
}

func TestP3_2PutNumbers(t *testing.T) {
	for _, r := range rows() {
		if !r.numeric {
			continue
		}
		for _, n := range edgeNumbers() {
			if inside(r, n) {
				wantPut(t, r.kind, api.Val{N: n}, told(r, n), api.OK)
			} else {
				wantPut(t, r.kind, api.Val{N: n}, nil, api.ErrRange)
			}
		}
		wantPut(t, r.kind, api.Val{N: 1, B: []byte{}, M: []api.Msg{}}, told(r, 1), api.OK)
		wantPut(t, r.kind, api.Val{N: 1, B: []byte{0}}, nil, api.ErrRange)
		wantPut(t, r.kind, api.Val{N: 1, M: message()}, nil, api.ErrRange)
	}
}

func TestP3_2PutBytes(t *testing.T) {
	for _, kind := range []int{api.String, api.Bytes} {
		wantPut(t, kind, api.Val{}, []byte{0}, api.OK)
		wantPut(t, kind, text("a\u00e4\x00"), []byte{4, 97, 195, 164, 0}, api.OK)
		long := bytes.Repeat([]byte{'z'}, 70000)
		wantPut(t, kind, api.Val{B: long}, append(binary.AppendUvarint(nil, 70000), long...), api.OK)
		wantPut(t, kind, api.Val{N: 1}, nil, api.ErrRange)
		wantPut(t, kind, api.Val{N: 1, B: []byte("\xff")}, nil, api.ErrRange) // named ahead of ErrText
		wantPut(t, kind, api.Val{B: []byte("\xff"), M: message()}, nil, api.ErrRange)
	}
	for _, s := range []string{"\xff", "a\x80", "\xc0\x80", "\xed\xa0\x80", "\xf4\x90\x80\x80", "\u00e4\xc3"} {
		wantPut(t, api.String, text(s), nil, api.ErrText)
		wantPut(t, api.Bytes, text(s), append([]byte{byte(len(s))}, s...), api.OK)
	}
}

func TestP3_2PutKinds(t *testing.T) {
	for _, kind := range append(strangers(), api.Message) {
		for _, v := range []api.Val{{}, {N: all64}, {B: []byte("\xff")}, {M: message()}, {N: 1, B: []byte("\xff"), M: message()}} {
			wantPut(t, kind, v, nil, api.ErrArg)
		}
	}
}

func TestP3_2GetNumbers(t *testing.T) {
	for _, r := range rows() {
		if !r.numeric {
			continue
		}
		for _, n := range edgeNumbers() {
			b := told(r, n)
			if r.wire == api.Fix32 && !inside(r, n) {
				continue // its 32 bits are another number's
			}
			if !inside(r, n) {
				refused(t, r.kind, b, api.ErrRange)
				continue
			}
			wantGet(t, r.kind, b, 0, api.Val{N: n}, len(b), api.OK)
			wantGet(t, r.kind, append(append([]byte{255, 128, 7}, b...), 255, 0), 3, api.Val{N: n}, len(b)+3, api.OK)
			for cut := range b {
				refused(t, r.kind, b[:cut], api.ErrEnd)
			}
		}
	}
}

// TestP3_2GetVarints reads varints of more bits than the kind has, with more digits than need be, and such as are none.
func TestP3_2GetVarints(t *testing.T) {
	refused(t, api.Int32, []byte{255, 255, 255, 255, 15}, api.ErrRange) // 2^32 - 1: not -1
	refused(t, api.Int32, []byte{128, 128, 128, 128, 8}, api.ErrRange)
	refused(t, api.Uint32, []byte{128, 128, 128, 128, 16}, api.ErrRange)
	refused(t, api.Uint32, []byte{255, 255, 255, 255, 255, 255, 255, 255, 255, 1}, api.ErrRange)
	refused(t, api.Sint32, []byte{128, 128, 128, 128, 16}, api.ErrRange)
	refused(t, api.Sint32, []byte{129, 128, 128, 128, 16}, api.ErrRange)
	wantGet(t, api.Sint32, []byte{255, 255, 255, 255, 15}, 0, api.Val{N: low32}, 5, api.OK)
	wantGet(t, api.Sint32, []byte{254, 255, 255, 255, 15}, 0, api.Val{N: high32}, 5, api.OK)
	refused(t, api.Bool, []byte{2}, api.ErrRange)
	refused(t, api.Bool, []byte{129, 128, 128, 128, 16}, api.ErrRange) // its lowest 32 bits are 1
	refused(t, api.Enum, []byte{128, 128, 128, 128, 8}, api.ErrRange)
	refused(t, api.Enum, []byte{255, 255, 255, 255, 255, 255, 255, 255, 255, 1}, api.ErrRange)
	wantGet(t, api.Bool, []byte{129, 128, 0}, 0, number(1), 3, api.OK)
	wantGet(t, api.Enum, []byte{135, 0}, 0, number(7), 2, api.OK)
	wantGet(t, api.Sint64, []byte{129, 0}, 0, number(-1), 2, api.OK)
	for _, kind := range []int{api.Bool, api.Int32, api.Int64, api.Uint32, api.Uint64, api.Sint32, api.Sint64, api.Enum, api.String, api.Bytes} {
		refused(t, kind, []byte{255, 255, 255, 255, 255, 255, 255, 255, 255, 2}, api.ErrVarint)
		refused(t, kind, []byte{128, 128, 128, 128, 128, 128, 128, 128, 128, 128, 0}, api.ErrVarint)
	}
}

func TestP3_2GetBytes(t *testing.T) {
	for _, kind := range []int{api.String, api.Bytes} {
		wantGet(t, kind, []byte{0}, 0, api.Val{}, 1, api.OK)
		wantGet(t, kind, []byte{9, 2, 7, 8, 255}, 1, api.Val{B: []byte{7, 8}}, 4, api.OK)
		wantGet(t, kind, []byte{130, 0, 195, 164}, 0, text("\u00e4"), 4, api.OK)
		refused(t, kind, []byte{1}, api.ErrEnd)
		refused(t, kind, nil, api.ErrEnd)
		refused(t, kind, []byte{2, 255}, api.ErrEnd) // wire's errors are named ahead of ErrText
		refused(t, kind, []byte{255, 255, 255, 255, 255, 255, 255, 255, 255, 1, 255}, api.ErrEnd)
	}
	for _, s := range []string{"\xff", "a\x80", "\xc0\x80", "\xed\xa0\x80", "\xf4\x90\x80\x80", "\u00e4\xc3"} {
		b := append([]byte{byte(len(s))}, s...)
		refused(t, api.String, b, api.ErrText)
		wantGet(t, api.Bytes, b, 0, text(s), len(b), api.OK)
	}
	// A character must end within its chunk.
	refused(t, api.String, []byte{1, 195, 164}, api.ErrText)
}

func TestP3_2GetPlaces(t *testing.T) {
	for _, r := range rows()[:16] {
		for _, b := range [][]byte{nil, {1}, {0, 0, 0, 0, 0, 0, 0, 0}} {
			for _, at := range []int{-1, -8, math.MinInt, len(b) + 1, len(b) + 100, math.MaxInt} {
				wantGet(t, r.kind, b, at, api.Val{}, 0, api.ErrArg)
			}
			wantGet(t, r.kind, b, len(b), api.Val{}, 0, api.ErrEnd)
		}
	}
	for _, kind := range append(strangers(), api.Message) {
		for _, at := range []int{-1, 0, 1, 2, 3} {
			wantGet(t, kind, []byte{1, 1}, at, api.Val{}, 0, api.ErrArg)
		}
	}
}
