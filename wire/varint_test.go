package wire_test

import (
	"bytes"
	"encoding/binary"
	"math"
	"math/big"
	"testing"

	"cartouche/api"
	"cartouche/wire"
)

// edgeNumbers are the numbers beside every power of two, where digits and words begin and end.
func edgeNumbers() []uint64 {
	l := []uint64{0, 300, 0x0123456789abcdef, math.MaxUint64, math.MaxUint64 - 1}
	for k := range 64 {
		p := uint64(1) << k
		l = append(l, p-1, p, p+1)
	}
	return l
}

// row is n bytes of one kind, and more behind them.
func row(n int, c byte, more ...byte) []byte {
	return append(bytes.Repeat([]byte{c}, n), more...)
}

// wrongPlaces are places at which nothing of so many bytes may be read.
func wrongPlaces(size int) []int {
	return []int{math.MinInt, -1 << 32, -2, -1, size + 1, size + 2, 1 << 32, math.MaxInt}
}

// wantVarint asks for one reading of a varint, and on a fault for nothing beside it.
func wantVarint(t *testing.T, b []byte, at int, n uint64, next int, e api.Errno) {
	t.Helper()
	gotN, gotNext, gotE := wire.GetVarint(b, at)
	if gotN != n || gotNext != next || gotE != e {
		t.Errorf("GetVarint(%v, %d) = %d, %d, %d; want %d, %d, %d", b, at, gotN, gotNext, gotE, n, next, e)
	}
}

func TestP1_1PutVarint(t *testing.T) {
	for _, c := range []struct {
		n    uint64
		want []byte
	}{
		{0, []byte{0}},
		{1, []byte{1}},
		{127, []byte{127}},
		{128, []byte{128, 1}},
		{300, []byte{172, 2}},
		{16383, []byte{255, 127}},
		{16384, []byte{128, 128, 1}},
		{1 << 63, row(9, 128, 1)},
		{1<<63 - 1, row(8, 255, 127)},
		{math.MaxUint64, row(9, 255, 1)},
	} {
		if got := wire.PutVarint(c.n); !bytes.Equal(got, c.want) {
			t.Errorf("PutVarint(%d) = %v; want %v", c.n, got, c.want)
		}
	}
	for _, n := range edgeNumbers() {
		if got, want := wire.PutVarint(n), binary.AppendUvarint(nil, n); !bytes.Equal(got, want) {
			t.Errorf("PutVarint(%d) = %v; want %v", n, got, want)
		}
	}
}

func TestP1_1Size(t *testing.T) {
	for n, want := range map[uint64]int{0: 1, 1: 1, 127: 1, 128: 2, 16383: 2, 16384: 3, 1<<56 - 1: 8, 1 << 56: 9, 1<<63 - 1: 9, 1 << 63: 10, math.MaxUint64: 10} {
		if got := wire.Size(n); got != want {
			t.Errorf("Size(%d) = %d; want %d", n, got, want)
		}
	}
	for _, n := range edgeNumbers() {
		if got, want := wire.Size(n), len(wire.PutVarint(n)); got != want {
			t.Errorf("Size(%d) = %d; PutVarint has %d", n, got, want)
		}
	}
}

func TestP1_1GetVarint(t *testing.T) {
	for _, n := range edgeNumbers() {
		b := binary.AppendUvarint(nil, n)
		wantVarint(t, b, 0, n, len(b), api.OK)
		// What stands ahead and behind is not read, whatever it is.
		for _, c := range []byte{0, 1, 127, 128, 255} {
			wantVarint(t, append(append([]byte{c, c}, b...), c, c), 2, n, len(b)+2, api.OK)
		}
		for cut := range b {
			wantVarint(t, b[:cut], 0, 0, 0, api.ErrEnd)
		}
	}
}

func TestP1_1GetVarintWithNoughtsAtTheTop(t *testing.T) {
	for more := range 10 {
		wantVarint(t, row(more, 128, 0), 0, 0, more+1, api.OK)
		wantVarint(t, row(more, 128, 0, 77), 0, 0, more+1, api.OK)
	}
	for more := range 9 {
		b := append([]byte{133}, row(more, 128, 0)...)
		wantVarint(t, b, 0, 5, more+2, api.OK)
	}
	wantVarint(t, row(8, 255, 255, 0), 0, 1<<63-1, 10, api.OK)
}

func TestP1_1TenthByte(t *testing.T) {
	for tenth := range 256 {
		n, next, e := uint64(tenth)<<63, 10, api.OK
		if tenth > 1 {
			n, next, e = 0, 0, api.ErrVarint
		}
		// With and without bytes behind: the tenth byte's fault goes ahead of an end behind it.
		wantVarint(t, row(9, 128, byte(tenth)), 0, n, next, e)
		wantVarint(t, row(9, 128, byte(tenth), 0), 0, n, next, e)
		wantVarint(t, row(9, 128, byte(tenth), 255, 255), 0, n, next, e)
		if tenth > 1 {
			wantVarint(t, append([]byte{7, 7, 7}, row(9, 255, byte(tenth))...), 3, 0, 0, api.ErrVarint)
		}
	}
	wantVarint(t, row(9, 255, 1), 0, math.MaxUint64, 10, api.OK)
	wantVarint(t, row(10, 128, 0), 0, 0, 0, api.ErrVarint)
	wantVarint(t, row(10, 128, 1), 0, 0, 0, api.ErrVarint)
	wantVarint(t, row(11, 128), 0, 0, 0, api.ErrVarint)
	for size := range 10 {
		wantVarint(t, row(size, 128), 0, 0, 0, api.ErrEnd)
		wantVarint(t, row(size, 255), 0, 0, 0, api.ErrEnd)
		wantVarint(t, row(size+10, 128), 10, 0, 0, api.ErrEnd)
	}
}

func TestP1_1Places(t *testing.T) {
	for _, b := range [][]byte{nil, {}, {1}, {1, 2}, row(9, 255, 2)} {
		wantVarint(t, b, len(b), 0, 0, api.ErrEnd)
		for _, at := range wrongPlaces(len(b)) {
			wantVarint(t, b, at, 0, 0, api.ErrArg)
		}
	}
	// Spare room is none of the bytes.
	room := []byte{128, 1, 1, 1}
	wantVarint(t, room[:1], 0, 0, 0, api.ErrEnd)
	wantVarint(t, room[:1], 1, 0, 0, api.ErrEnd)
	wantVarint(t, room[:1], 2, 0, 0, api.ErrArg)
	wantVarint(t, room, 1, 1, 2, api.OK)
}

// folded is the document's rule in numbers without bound.
func folded(n int64) uint64 {
	twice := new(big.Int).Mul(big.NewInt(n), big.NewInt(2))
	if n < 0 {
		twice.Neg(twice).Sub(twice, big.NewInt(1))
	}
	return twice.Uint64()
}

func TestP1_1ZigZag(t *testing.T) {
	for n, want := range map[int64]uint64{0: 0, -1: 1, 1: 2, -2: 3, 2: 4, math.MaxInt64: math.MaxUint64 - 1, math.MinInt64: math.MaxUint64} {
		if got := wire.ZigZag(n); got != want {
			t.Errorf("ZigZag(%d) = %d; want %d", n, got, want)
		}
		if got := wire.ZagZig(want); got != n {
			t.Errorf("ZagZig(%d) = %d; want %d", want, got, n)
		}
	}
	for _, u := range edgeNumbers() {
		n := int64(u)
		if got, want := wire.ZigZag(n), folded(n); got != want {
			t.Errorf("ZigZag(%d) = %d; want %d", n, got, want)
		}
		if got := wire.ZagZig(folded(n)); got != n {
			t.Errorf("ZagZig(%d) = %d; want %d", folded(n), got, n)
		}
		if got := wire.ZigZag(wire.ZagZig(u)); got != u {
			t.Errorf("ZigZag of ZagZig(%d) = %d", u, got)
		}
	}
}
