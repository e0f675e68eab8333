package wire_test

import (
	"bytes"
	"encoding/binary"
	"math"
	"testing"

	"cartouche/api"
	"cartouche/wire"
)

func wantPut(t *testing.T, what string, got []byte, gotE api.Errno, want []byte, e api.Errno) {
	t.Helper()
	if !bytes.Equal(got, want) || gotE != e {
		t.Errorf("%s = %v, %d; want %v, %d", what, got, gotE, want, e)
	}
}

func wantTag(t *testing.T, b []byte, at, number, kind, next int, e api.Errno) {
	t.Helper()
	gotNumber, gotKind, gotNext, gotE := wire.GetTag(b, at)
	if gotNumber != number || gotKind != kind || gotNext != next || gotE != e {
		t.Errorf("GetTag(%v, %d) = %d, %d, %d, %d; want %d, %d, %d, %d", b, at, gotNumber, gotKind, gotNext, gotE, number, kind, next, e)
	}
}

func sameEntry(x, y api.Entry) bool {
	return x.Number == y.Number && x.Kind == y.Kind && x.N == y.N && bytes.Equal(x.B, y.B)
}

func sameEntries(l, m []api.Entry) bool {
	if len(l) != len(m) {
		return false
	}
	for i, x := range l {
		if !sameEntry(x, m[i]) {
			return false
		}
	}
	return true
}

func wantEntry(t *testing.T, b []byte, at int, x api.Entry, next int, e api.Errno) {
	t.Helper()
	gotX, gotNext, gotE := wire.GetEntry(b, at)
	if !sameEntry(gotX, x) || gotNext != next || gotE != e {
		t.Errorf("GetEntry(%v, %d) = %v, %d, %d; want %v, %d, %d", b, at, gotX, gotNext, gotE, x, next, e)
	}
}

func wantSplit(t *testing.T, b []byte, want []api.Entry, e api.Errno) {
	t.Helper()
	got, gotE := wire.Split(b)
	if !sameEntries(got, want) || gotE != e {
		t.Errorf("Split(%v) = %v, %d; want %v, %d", b, got, gotE, want, e)
	}
}

func wantJoin(t *testing.T, l []api.Entry, want []byte, e api.Errno) {
	t.Helper()
	got, gotE := wire.Join(l)
	if !bytes.Equal(got, want) || gotE != e {
		t.Errorf("Join(%v) = %v, %d; want %v, %d", l, got, gotE, want, e)
	}
}

func wireKind(kind int) bool { return kind == 0 || kind == 1 || kind == 2 || kind == 5 }

// entries has one of every kind at every edge of its number and of its value.
func entries() []api.Entry {
	var l []api.Entry
	for _, number := range []int{1, 2, 15, 16, 2047, 2048, 536870910, 536870911} {
		for _, n := range []uint64{0, 1, 127, 128, 1<<32 - 1, 1 << 32, 1 << 63, math.MaxUint64} {
			l = append(l, api.Entry{Number: number, Kind: 0, N: n}, api.Entry{Number: number, Kind: 1, N: n})
			if n < 1<<32 {
				l = append(l, api.Entry{Number: number, Kind: 5, N: n})
			}
		}
		for _, size := range []int{0, 1, 2, 127, 128} {
			l = append(l, api.Entry{Number: number, Kind: 2, B: row(size, 200)})
		}
	}
	return l
}

// told is an entry's bytes by the document's words alone.
func told(x api.Entry) []byte {
	b := binary.AppendUvarint(nil, uint64(x.Number)*8+uint64(x.Kind))
	switch x.Kind {
	case 0:
		return binary.AppendUvarint(b, x.N)
	case 1:
		return binary.LittleEndian.AppendUint64(b, x.N)
	case 5:
		return binary.LittleEndian.AppendUint32(b, uint32(x.N))
	}
	return append(binary.AppendUvarint(b, uint64(len(x.B))), x.B...)
}

func TestP1_3PutTag(t *testing.T) {
	numbers := []int{math.MinInt, -536870912, -1, 0, 1, 2, 15, 16, 31, 536870910, 536870911, 536870912, 1 << 32, 1<<61 + 1, math.MaxInt}
	kinds := []int{math.MinInt, -3, -1, 0, 1, 2, 3, 4, 5, 6, 7, 8, 9, 10, 13, 256, math.MaxInt}
	for _, number := range numbers {
		for _, kind := range kinds {
			var want []byte
			e := api.OK
			switch {
			case number < 1 || number > 536870911:
				e = api.ErrNumber
			case !wireKind(kind):
				e = api.ErrKind
			default:
				want = binary.AppendUvarint(nil, uint64(number)*8+uint64(kind))
			}
			got, gotE := wire.PutTag(number, kind)
			if !bytes.Equal(got, want) || gotE != e {
				t.Errorf("PutTag(%d, %d) = %v, %d; want %v, %d", number, kind, got, gotE, want, e)
			}
		}
	}
	got, e := wire.PutTag(1, 2)
	wantPut(t, "PutTag(1, 2)", got, e, []byte{10}, api.OK)
	got, e = wire.PutTag(536870911, 5)
	wantPut(t, "PutTag(536870911, 5)", got, e, []byte{253, 255, 255, 255, 15}, api.OK)
}

func TestP1_3GetTag(t *testing.T) {
	l := edgeNumbers()
	for kind := range uint64(8) {
		for _, number := range []uint64{0, 1, 2, 15, 16, 536870910, 536870911, 536870912, 536870913, 1 << 32, 1<<32 + 1, 1 << 60, 1<<61 - 1} {
			l = append(l, number*8+kind)
		}
	}
	for _, n := range l {
		number, kind, e := n/8, n%8, api.OK
		b := binary.AppendUvarint([]byte{77}, n)
		next := len(b)
		switch {
		case number == 0 || number > 536870911:
			e = api.ErrNumber
		case !wireKind(int(kind)):
			e = api.ErrKind
		}
		if e != api.OK {
			number, kind, next = 0, 0, 0
		}
		wantTag(t, b, 1, int(number), int(kind), next, e)
		wantTag(t, append(b, 255, 0), 1, int(number), int(kind), next, e)
	}
}

func TestP1_3GetTagFaults(t *testing.T) {
	wantTag(t, []byte{136, 0}, 0, 1, 0, 2, api.OK)
	wantTag(t, nil, 0, 0, 0, 0, api.ErrEnd)
	wantTag(t, []byte{128}, 0, 0, 0, 0, api.ErrEnd)
	wantTag(t, []byte{8}, 1, 0, 0, 0, api.ErrEnd)
	wantTag(t, row(9, 128, 2), 0, 0, 0, 0, api.ErrVarint)
	wantTag(t, row(9, 255, 255), 0, 0, 0, 0, api.ErrVarint)
	for _, at := range wrongPlaces(1) {
		wantTag(t, []byte{8}, at, 0, 0, 0, api.ErrArg)
	}
}

func TestP1_4PutEntry(t *testing.T) {
	for _, x := range entries() {
		got, e := wire.PutEntry(x)
		if !bytes.Equal(got, told(x)) || e != api.OK {
			t.Errorf("PutEntry(%v) = %v, %d; want %v", x, got, e, told(x))
		}
	}
	// No bytes are no bytes, whether the list is nil or not.
	got, e := wire.PutEntry(api.Entry{Number: 1, N: 5, B: []byte{}})
	wantPut(t, "PutEntry with an empty B", got, e, []byte{8, 5}, api.OK)
	got, e = wire.PutEntry(api.Entry{Number: 2, Kind: 2})
	wantPut(t, "PutEntry with a nil B", got, e, []byte{18, 0}, api.OK)
}

func TestP1_4PutEntryFaults(t *testing.T) {
	for _, c := range []struct {
		x api.Entry
		e api.Errno
	}{
		{api.Entry{Number: 0, Kind: 0}, api.ErrNumber},
		{api.Entry{Number: -1, Kind: 3}, api.ErrNumber},
		{api.Entry{Number: 536870912, Kind: 2, N: 1}, api.ErrNumber},
		{api.Entry{Number: 0, Kind: 5, N: 1 << 32}, api.ErrNumber},
		{api.Entry{Number: 1, Kind: 3}, api.ErrKind},
		{api.Entry{Number: 1, Kind: 4}, api.ErrKind},
		{api.Entry{Number: 1, Kind: 6, N: 1 << 32, B: []byte{1}}, api.ErrKind},
		{api.Entry{Number: 1, Kind: 7}, api.ErrKind},
		{api.Entry{Number: 1, Kind: 8}, api.ErrKind},
		{api.Entry{Number: 1, Kind: -1}, api.ErrKind},
		{api.Entry{Number: 1, Kind: 5, N: 1<<32 - 1}, api.OK},
		{api.Entry{Number: 1, Kind: 5, N: 1 << 32}, api.ErrRange},
		{api.Entry{Number: 1, Kind: 5, N: math.MaxUint64}, api.ErrRange},
		{api.Entry{Number: 1, Kind: 5, N: 1, B: []byte{1}}, api.ErrRange},
		{api.Entry{Number: 1, Kind: 5, N: 1 << 32, B: []byte{1}}, api.ErrRange},
		{api.Entry{Number: 1, Kind: 2, N: 1}, api.ErrRange},
		{api.Entry{Number: 1, Kind: 2, N: 1 << 63, B: []byte{1}}, api.ErrRange},
		{api.Entry{Number: 1, Kind: 0, B: []byte{0}}, api.ErrRange},
		{api.Entry{Number: 1, Kind: 1, B: []byte{0}}, api.ErrRange},
		{api.Entry{Number: 1, Kind: 0, N: math.MaxUint64}, api.OK},
		{api.Entry{Number: 1, Kind: 1, N: math.MaxUint64}, api.OK},
	} {
		got, e := wire.PutEntry(c.x)
		if e != c.e || (e != api.OK) != (len(got) == 0) {
			t.Errorf("PutEntry(%v) = %v, %d; want %d", c.x, got, e, c.e)
		}
	}
}

func TestP1_4GetEntry(t *testing.T) {
	for _, x := range entries() {
		b := told(x)
		wantEntry(t, b, 0, x, len(b), api.OK)
		wantEntry(t, append(append([]byte{255, 128}, b...), 128, 255, 1), 2, x, len(b)+2, api.OK)
		for cut := range b {
			wantEntry(t, b[:cut], 0, api.Entry{}, 0, api.ErrEnd)
		}
	}
	wantEntry(t, []byte{136, 0, 133, 0}, 0, api.Entry{Number: 1, N: 5}, 4, api.OK)
	wantEntry(t, []byte{18, 1, 9, 8}, 0, api.Entry{Number: 2, Kind: 2, B: []byte{9}}, 3, api.OK)
}

func TestP1_4GetEntryFaults(t *testing.T) {
	for _, c := range []struct {
		b []byte
		e api.Errno
	}{
		{nil, api.ErrEnd},
		{[]byte{0}, api.ErrNumber},
		{[]byte{7}, api.ErrNumber},
		{[]byte{128, 128, 128, 128, 16, 1}, api.ErrNumber},
		{[]byte{11}, api.ErrKind},
		{[]byte{12, 1}, api.ErrKind},
		{[]byte{14, 1}, api.ErrKind},
		{[]byte{15, 1}, api.ErrKind},
		{row(9, 128, 2), api.ErrVarint},
		{append([]byte{8}, row(9, 255, 2)...), api.ErrVarint},
		{append([]byte{10}, row(9, 255, 2)...), api.ErrVarint},
		{append([]byte{10}, row(9, 255, 1, 7)...), api.ErrEnd},
		{[]byte{10, 2, 7}, api.ErrEnd},
		{[]byte{13, 1, 2, 3}, api.ErrEnd},
		{[]byte{9, 1, 2, 3, 4, 5, 6, 7}, api.ErrEnd},
	} {
		wantEntry(t, c.b, 0, api.Entry{}, 0, c.e)
	}
	for _, b := range [][]byte{nil, {8, 1}} {
		wantEntry(t, b, len(b), api.Entry{}, 0, api.ErrEnd)
		for _, at := range wrongPlaces(len(b)) {
			wantEntry(t, b, at, api.Entry{}, 0, api.ErrArg)
		}
	}
}

func TestP1_4Split(t *testing.T) {
	wantSplit(t, nil, nil, api.OK)
	wantSplit(t, []byte{}, nil, api.OK)
	wantSplit(t, []byte{8, 1, 18, 0}, []api.Entry{{Number: 1, N: 1}, {Number: 2, Kind: 2}}, api.OK)
	wantSplit(t, []byte{8, 1, 8, 1}, []api.Entry{{Number: 1, N: 1}, {Number: 1, N: 1}}, api.OK)
	wantSplit(t, []byte{8}, nil, api.ErrEnd)
	wantSplit(t, []byte{8, 1, 8}, nil, api.ErrEnd)
	wantSplit(t, []byte{8, 1, 7}, nil, api.ErrNumber)
	// The first error is the one of the bytes that stand ahead.
	wantSplit(t, []byte{8, 1, 11, 0, 8}, nil, api.ErrKind)
	wantSplit(t, []byte{0, 11, 8}, nil, api.ErrNumber)
	wantSplit(t, append([]byte{8}, row(9, 128, 3, 0)...), nil, api.ErrVarint)
}

func TestP1_4Join(t *testing.T) {
	wantJoin(t, nil, nil, api.OK)
	wantJoin(t, []api.Entry{}, nil, api.OK)
	wantJoin(t, []api.Entry{{Number: 1, N: 1}, {Number: 2, Kind: 2}}, []byte{8, 1, 18, 0}, api.OK)
	wantJoin(t, []api.Entry{{Number: 2, N: 1}, {Number: 1, Kind: 5, N: 2}}, []byte{16, 1, 13, 2, 0, 0, 0}, api.OK)
	wantJoin(t, []api.Entry{{Number: 1}, {Number: 1, Kind: 3}, {}}, nil, api.ErrKind)
	wantJoin(t, []api.Entry{{}, {Number: 1, Kind: 3}}, nil, api.ErrNumber)
	wantJoin(t, []api.Entry{{Number: 1}, {Number: 1, Kind: 2, N: 1}, {Number: 1, Kind: 3}}, nil, api.ErrRange)
	wantJoin(t, []api.Entry{{Number: 1}, {Number: 1}, {Number: 536870912}}, nil, api.ErrNumber)
}
