package wire_test

import (
	"bytes"
	"testing"

	"cartouche/api"
	"cartouche/wire"
)

// behinds are bytes that may stand behind what is read, whole or broken.
func behinds() [][]byte {
	return [][]byte{nil, {0}, {1}, {127}, {128}, {255}, {8, 1}, row(12, 255)}
}

func TestP1_5NumbersBack(t *testing.T) {
	for _, n := range edgeNumbers() {
		for _, more := range behinds() {
			b := wire.PutVarint(n)
			wantVarint(t, append(b, more...), 0, n, len(b), api.OK)
			b = wire.PutFix32(uint32(n))
			wantFix32(t, append(b, more...), 0, uint32(n), 4, api.OK)
			b = wire.PutFix64(n)
			wantFix64(t, append(b, more...), 0, n, 8, api.OK)
		}
	}
}

func TestP1_5ChunksTagsEntriesBack(t *testing.T) {
	for _, more := range behinds() {
		for _, size := range []int{0, 1, 127, 128, 300} {
			b := wire.PutChunk(row(size, 255))
			wantChunk(t, append(b, more...), 0, row(size, 255), len(b), api.OK)
		}
		for _, x := range entries() {
			b, e := wire.PutTag(x.Number, x.Kind)
			if e != api.OK {
				t.Fatalf("PutTag(%d, %d): %d", x.Number, x.Kind, e)
			}
			wantTag(t, append(b, more...), 0, x.Number, x.Kind, len(b), api.OK)
			b, e = wire.PutEntry(x)
			if e != api.OK {
				t.Fatalf("PutEntry(%v): %d", x, e)
			}
			wantEntry(t, append(b, more...), 0, x, len(b), api.OK)
		}
	}
}

func TestP1_5SplitOfJoin(t *testing.T) {
	all := entries()
	for from := 0; from <= len(all); from += 7 {
		b, e := wire.Join(all[from:])
		if e != api.OK {
			t.Fatalf("Join: %d", e)
		}
		var want []byte
		for _, x := range all[from:] {
			want = append(want, told(x)...)
		}
		if !bytes.Equal(b, want) {
			t.Errorf("Join from entry %d on is not its entries' bytes", from)
		}
		wantSplit(t, b, all[from:], api.OK)
	}
}

func TestP1_5JoinOfSplit(t *testing.T) {
	for _, b := range [][]byte{
		nil,
		{8, 1, 18, 0},
		{136, 0, 129, 0}, // more digits than need be
		{146, 128, 0, 129, 128, 0, 7, 13, 1, 2, 3, 4},
	} {
		l, e := wire.Split(b)
		if e != api.OK {
			t.Fatalf("Split(%v): %d", b, e)
		}
		joined, e := wire.Join(l)
		if e != api.OK {
			t.Fatalf("Join(%v): %d", l, e)
		}
		wantSplit(t, joined, l, api.OK)
	}
	wantSplit(t, []byte{136, 0, 129, 0}, []api.Entry{{Number: 1, N: 1}}, api.OK)
}

func TestP1_5SplitOfBoth(t *testing.T) {
	parts := [][]byte{nil, {8, 1}, {136, 0, 129, 0}, {18, 2, 8, 1}, {13, 1, 2, 3, 4, 18, 0}, {9, 1, 2, 3, 4, 5, 6, 7, 8}}
	for _, a := range parts {
		for _, b := range parts {
			first, _ := wire.Split(a)
			second, _ := wire.Split(b)
			wantSplit(t, append(append([]byte{}, a...), b...), append(first, second...), api.OK)
		}
	}
}
