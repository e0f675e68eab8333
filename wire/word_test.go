package wire_test

import (
	"bytes"
	"encoding/binary"
	"math"
	"testing"

	"cartouche/api"
	"cartouche/wire"
)

func wantFix32(t *testing.T, b []byte, at int, n uint32, next int, e api.Errno) {
	t.Helper()
	gotN, gotNext, gotE := wire.GetFix32(b, at)
	if gotN != n || gotNext != next || gotE != e {
		t.Errorf("GetFix32(%v, %d) = %d, %d, %d; want %d, %d, %d", b, at, gotN, gotNext, gotE, n, next, e)
	}
}

func wantFix64(t *testing.T, b []byte, at int, n uint64, next int, e api.Errno) {
	t.Helper()
	gotN, gotNext, gotE := wire.GetFix64(b, at)
	if gotN != n || gotNext != next || gotE != e {
		t.Errorf("GetFix64(%v, %d) = %d, %d, %d; want %d, %d, %d", b, at, gotN, gotNext, gotE, n, next, e)
	}
}

func wantChunk(t *testing.T, b []byte, at int, c []byte, next int, e api.Errno) {
	t.Helper()
	gotC, gotNext, gotE := wire.GetChunk(b, at)
	if !bytes.Equal(gotC, c) || gotNext != next || gotE != e {
		t.Errorf("GetChunk(%v, %d) = %v, %d, %d; want %v, %d, %d", b, at, gotC, gotNext, gotE, c, next, e)
	}
}

func TestP1_2PutFix(t *testing.T) {
	if got := wire.PutFix32(258); !bytes.Equal(got, []byte{2, 1, 0, 0}) {
		t.Errorf("PutFix32(258) = %v", got)
	}
	if got := wire.PutFix64(1<<63 + 258); !bytes.Equal(got, []byte{2, 1, 0, 0, 0, 0, 0, 128}) {
		t.Errorf("PutFix64(2^63 + 258) = %v", got)
	}
	for _, n := range edgeNumbers() {
		if got, want := wire.PutFix32(uint32(n)), binary.LittleEndian.AppendUint32(nil, uint32(n)); !bytes.Equal(got, want) {
			t.Errorf("PutFix32(%d) = %v; want %v", uint32(n), got, want)
		}
		if got, want := wire.PutFix64(n), binary.LittleEndian.AppendUint64(nil, n); !bytes.Equal(got, want) {
			t.Errorf("PutFix64(%d) = %v; want %v", n, got, want)
		}
	}
}

func TestP1_2GetFix(t *testing.T) {
	for _, n := range edgeNumbers() {
		b := binary.LittleEndian.AppendUint32([]byte{9}, uint32(n))
		wantFix32(t, b, 1, uint32(n), 5, api.OK)
		wantFix32(t, append(b, 255, 128), 1, uint32(n), 5, api.OK)
		b = binary.LittleEndian.AppendUint64([]byte{9}, n)
		wantFix64(t, b, 1, n, 9, api.OK)
		wantFix64(t, append(b, 255, 128), 1, n, 9, api.OK)
	}
}

func TestP1_2FixEndsAndPlaces(t *testing.T) {
	b := row(8, 255)
	for size := range 9 {
		// The slice has spare room, which is none of its bytes.
		c := b[:size]
		for at := range size + 1 {
			if size-at < 4 {
				wantFix32(t, c, at, 0, 0, api.ErrEnd)
			} else {
				wantFix32(t, c, at, math.MaxUint32, at+4, api.OK)
			}
			if size-at < 8 {
				wantFix64(t, c, at, 0, 0, api.ErrEnd)
			} else {
				wantFix64(t, c, at, math.MaxUint64, at+8, api.OK)
			}
		}
		for _, at := range wrongPlaces(size) {
			wantFix32(t, c, at, 0, 0, api.ErrArg)
			wantFix64(t, c, at, 0, 0, api.ErrArg)
		}
	}
	wantFix32(t, nil, 0, 0, 0, api.ErrEnd)
	wantFix64(t, nil, 0, 0, 0, api.ErrEnd)
	wantFix32(t, nil, 1, 0, 0, api.ErrArg)
	wantFix64(t, nil, 1, 0, 0, api.ErrArg)
}

func TestP1_2PutChunk(t *testing.T) {
	for _, c := range []struct{ c, want []byte }{
		{nil, []byte{0}},
		{[]byte{}, []byte{0}},
		{[]byte{7}, []byte{1, 7}},
		{[]byte{0, 255}, []byte{2, 0, 255}},
	} {
		if got := wire.PutChunk(c.c); !bytes.Equal(got, c.want) {
			t.Errorf("PutChunk(%v) = %v; want %v", c.c, got, c.want)
		}
	}
	for _, size := range []int{126, 127, 128, 129, 16383, 16384, 70000} {
		c := row(size, 201)
		want := append(binary.AppendUvarint(nil, uint64(size)), c...)
		if got := wire.PutChunk(c); !bytes.Equal(got, want) {
			t.Errorf("PutChunk of %d bytes is wrong", size)
		}
		wantChunk(t, want, 0, c, len(want), api.OK)
		wantChunk(t, want[:len(want)-1], 0, nil, 0, api.ErrEnd)
	}
}

func TestP1_2GetChunk(t *testing.T) {
	wantChunk(t, []byte{0}, 0, nil, 1, api.OK)
	wantChunk(t, []byte{0, 9}, 0, nil, 1, api.OK)
	wantChunk(t, []byte{2, 7, 8}, 0, []byte{7, 8}, 3, api.OK)
	wantChunk(t, []byte{2, 7, 8, 9}, 0, []byte{7, 8}, 3, api.OK)
	wantChunk(t, []byte{99, 2, 7, 8, 9}, 1, []byte{7, 8}, 4, api.OK)
	wantChunk(t, []byte{129, 0, 7, 8}, 0, []byte{7}, 3, api.OK)
	wantChunk(t, []byte{2, 7}, 0, nil, 0, api.ErrEnd)
	wantChunk(t, []byte{1}, 0, nil, 0, api.ErrEnd)
	// Bytes in the spare room do not follow.
	wantChunk(t, []byte{2, 7, 8}[:2], 0, nil, 0, api.ErrEnd)
}

func TestP1_2GetChunkPastTheEnd(t *testing.T) {
	for _, size := range edgeNumbers() {
		if size < 6 {
			continue
		}
		b := append(binary.AppendUvarint([]byte{3}, size), 5, 5, 5, 5, 5)
		wantChunk(t, b, 1, nil, 0, api.ErrEnd)
	}
}

func TestP1_2GetChunkFaults(t *testing.T) {
	wantChunk(t, nil, 0, nil, 0, api.ErrEnd)
	wantChunk(t, []byte{128}, 0, nil, 0, api.ErrEnd)
	wantChunk(t, []byte{1, 7}, 2, nil, 0, api.ErrEnd)
	wantChunk(t, row(9, 255, 2), 0, nil, 0, api.ErrVarint)
	wantChunk(t, row(9, 128, 2), 0, nil, 0, api.ErrVarint)
	for _, b := range [][]byte{nil, {0}, {1, 7}} {
		for _, at := range wrongPlaces(len(b)) {
			wantChunk(t, b, at, nil, 0, api.ErrArg)
		}
	}
}
