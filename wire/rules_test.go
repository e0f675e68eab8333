package wire_test

import (
	"bytes"
	"testing"

	"cartouche/api"
	"cartouche/wire"
)

// roomy is bytes with spare room behind them, and the whole to look at afterwards.
func roomy(b ...byte) (list, whole []byte) {
	whole = append(append([]byte{}, b...), row(40, 0xee)...)
	return whole[:len(b)], whole
}

// spoil changes a list that was answered, spare room too.
func spoil(b []byte) {
	b = b[:cap(b)]
	for i := range b {
		b[i] ^= 0xff
	}
}

// spoilEntries changes a list of entries that was answered, and the room behind it, but not the bytes in it.
func spoilEntries(l []api.Entry) {
	l = l[:cap(l)]
	for i := range l {
		l[i] = api.Entry{Number: -1, Kind: -1, N: 99, B: []byte{99}}
	}
}

// TestR1R2Readings asks every call that reads at every place of every string of few bytes.
func TestR1R2Readings(t *testing.T) {
	heads := []byte{0, 1, 2, 7, 8, 9, 10, 11, 13, 15, 127, 128, 129, 255}
	strings := [][]byte{nil}
	for from, size := 0, 0; size < 3; size++ {
		to := len(strings)
		for _, s := range strings[from:to] {
			for _, c := range heads {
				strings = append(strings, append(append([]byte{}, s...), c))
			}
		}
		from = to
	}
	for _, b := range strings {
		for at := -2; at <= len(b)+2; at++ {
			lookAtReadings(t, b, at)
		}
		if l, e := wire.Split(b); e != api.OK && len(l) > 0 {
			t.Errorf("Split(%v): entries beside error %d", b, e)
		}
	}
}

func lookAtReadings(t *testing.T, b []byte, at int) {
	t.Helper()
	look := func(what string, next int, e api.Errno, zero bool) {
		outside := at < 0 || at > len(b)
		switch {
		case outside != (e == api.ErrArg):
			t.Errorf("%s(%v, %d): error %d", what, b, at, e)
		case e != api.OK && (next != 0 || !zero):
			t.Errorf("%s(%v, %d): more than error %d is answered", what, b, at, e)
		case e == api.OK && (next <= at || next > len(b)):
			t.Errorf("%s(%v, %d): next is %d", what, b, at, next)
		}
	}
	n, next, e := wire.GetVarint(b, at)
	look("GetVarint", next, e, n == 0)
	n32, next, e := wire.GetFix32(b, at)
	look("GetFix32", next, e, n32 == 0)
	n, next, e = wire.GetFix64(b, at)
	look("GetFix64", next, e, n == 0)
	c, next, e := wire.GetChunk(b, at)
	look("GetChunk", next, e, len(c) == 0)
	number, kind, next, e := wire.GetTag(b, at)
	look("GetTag", next, e, number == 0 && kind == 0)
	x, next, e := wire.GetEntry(b, at)
	look("GetEntry", next, e, sameEntry(x, api.Entry{}))
}

func TestR4ReadingsLeaveTheirBytes(t *testing.T) {
	for _, b := range [][]byte{{8, 1, 18, 2, 7, 7}, {18, 3, 1, 2}, {18, 0}, {3, 1, 2, 3, 4}, row(8, 77), row(9, 128, 2), {}} {
		list, whole := roomy(b...)
		before := bytes.Clone(whole)
		for at := -1; at <= len(list)+1; at++ {
			wire.GetVarint(list, at)
			wire.GetFix32(list, at)
			wire.GetFix64(list, at)
			wire.GetTag(list, at)
			c, _, _ := wire.GetChunk(list, at)
			spoil(c)
			x, _, _ := wire.GetEntry(list, at)
			spoil(x.B)
		}
		l, _ := wire.Split(list)
		for _, x := range l {
			spoil(x.B)
		}
		if !bytes.Equal(whole, before) {
			t.Errorf("a reading of %v, or what became of its answer, changed it to %v", before, whole)
		}
	}
}

func TestR4ReadingsKeepNothing(t *testing.T) {
	b := []byte{18, 2, 7, 8, 18, 1, 9}
	c, _, _ := wire.GetChunk(b, 1)
	x, _, _ := wire.GetEntry(b, 0)
	l, _ := wire.Split(b)
	spoil(b)
	if !bytes.Equal(c, []byte{7, 8}) || !bytes.Equal(x.B, []byte{7, 8}) {
		t.Errorf("the bytes that were read went with their source: %v, %v", c, x.B)
	}
	if !sameEntries(l, []api.Entry{{Number: 2, Kind: 2, B: []byte{7, 8}}, {Number: 2, Kind: 2, B: []byte{9}}}) {
		t.Errorf("the entries went with their source: %v", l)
	}
}

func TestR4SplitListsAreApart(t *testing.T) {
	b := []byte{10, 1, 1, 10, 0, 10, 2, 2, 2, 8, 5, 10, 1, 3}
	want := [][]byte{{1}, {}, {2, 2}, {}, {3}}
	for spoilt := range want {
		l, e := wire.Split(b)
		if e != api.OK || len(l) != len(want) {
			t.Fatalf("Split(%v): %d entries, error %d", b, len(l), e)
		}
		spoil(l[spoilt].B)
		for i, x := range l {
			if i != spoilt && !bytes.Equal(x.B, want[i]) {
				t.Errorf("entry %d changed with entry %d: %v", i, spoilt, x.B)
			}
		}
	}
	first, _ := wire.Split(b)
	second, _ := wire.Split(b)
	spoilEntries(first)
	for i, x := range second {
		if !bytes.Equal(x.B, want[i]) || x.Number != 1 {
			t.Errorf("entry %d changed with another call's answer: %v", i, x)
		}
	}
}

func TestR4WritingsLeaveTheirBytes(t *testing.T) {
	for _, b := range [][]byte{{7, 8}, {}, row(130, 9)} {
		list, whole := roomy(b...)
		before := bytes.Clone(whole)
		x := api.Entry{Number: 1, Kind: 2, B: list}
		room := []api.Entry{x, {Number: 2, N: 7}, {Number: 3}, {Number: 4}}
		chunk := wire.PutChunk(list)
		one, _ := wire.PutEntry(x)
		joined, _ := wire.Join(room[:2])
		// What stands in spare room is not told either.
		if !bytes.Equal(chunk, told(x)[1:]) || !bytes.Equal(one, told(x)) || !bytes.Equal(joined, append(told(x), 16, 7)) {
			t.Errorf("writings of %d bytes with spare room: %v, %v, %v", len(b), chunk, one, joined)
		}
		spoil(chunk)
		spoil(one)
		spoil(joined)
		if !bytes.Equal(whole, before) {
			t.Errorf("a writing of %v, or what became of its answer, changed it to %v", before, whole)
		}
		if !sameEntries(room, []api.Entry{{Number: 1, Kind: 2, B: b}, {Number: 2, N: 7}, {Number: 3}, {Number: 4}}) {
			t.Errorf("Join changed its list, or the room behind it: %v", room)
		}
	}
}

// TestR4WritingsAreNew asks twice, and spoils one answer: the other must not go with it.
func TestR4WritingsAreNew(t *testing.T) {
	c := []byte{7, 8}
	x := api.Entry{Number: 1, Kind: 2, B: c}
	for what, put := range map[string]func() []byte{
		"PutVarint": func() []byte { return wire.PutVarint(300) },
		"PutFix32":  func() []byte { return wire.PutFix32(300) },
		"PutFix64":  func() []byte { return wire.PutFix64(300) },
		"PutChunk":  func() []byte { return wire.PutChunk(c) },
		"PutTag":    func() []byte { b, _ := wire.PutTag(300, 2); return b },
		"PutEntry":  func() []byte { b, _ := wire.PutEntry(x); return b },
		"Join":      func() []byte { b, _ := wire.Join([]api.Entry{x}); return b },
	} {
		first, second := put(), put()
		before := bytes.Clone(second)
		spoil(first)
		if !bytes.Equal(second, before) || !bytes.Equal(put(), before) {
			t.Errorf("%s: an answer went with another one", what)
		}
	}
	joined, _ := wire.Join([]api.Entry{x})
	spoil(c)
	if !bytes.Equal(joined, []byte{10, 2, 7, 8}) {
		t.Errorf("Join kept an entry's bytes: %v", joined)
	}
}
