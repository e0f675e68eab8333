package delta_test

import (
	"bytes"
	"math"
	"slices"
	"strings"
	"testing"

	"cartouche/api"
	"cartouche/delta"
	"cartouche/interp"
	"cartouche/samples"
)

// entry tells a step's bytes: its number, its path's bytes, and what stands behind.
func entry(do int, path []byte, behind ...[]byte) []byte {
	return all(tag(do, api.Chunk), framed(tag(1, api.Chunk), framed(path), all(behind...)))
}

// ofPut, ofTake and ofKeep tell the bytes of each sort of step, at the message itself or at the path 3 as often.
func ofPut(f []byte, depth int) []byte {
	return entry(1, bytes.Repeat([]byte{3}, depth), tag(2, api.Chunk), framed(f))
}

func ofTake(n uint64, depth int) []byte {
	return entry(2, bytes.Repeat([]byte{3}, depth), []byte{24}, samples.Digits(n))
}

func ofKeep(l []byte, depth int) []byte {
	return entry(3, bytes.Repeat([]byte{3}, depth), tag(4, api.Chunk), framed(l))
}

func TestP21_3Examples(t *testing.T) {
	lookAtBytes(t, em(), 1, []byte{18, 4, 10, 0, 24, 1}, take(1))
	lookAtBytes(t, em(), 1, []byte{10, 7, 10, 1, 3, 18, 2, 8, 5}, put(field(1, num(5)), 3))
	lookAtUnread(t, em(), 1, []byte{10, 0})
}

// TestP21_3Steps has steps of each sort, one behind the other, at several paths.
func TestP21_3Steps(t *testing.T) {
	lookAtBytes(t, em(), 1, nil)
	var want []byte
	var l []delta.Step
	for depth := range 20 {
		path := slices.Repeat([]int{3}, depth)
		for _, row := range []struct {
			b []byte
			s delta.Step
		}{
			{ofPut([]byte{8, 5}, depth), put(field(1, num(5)), path...)}, {ofPut([]byte{18, 2, 1, 2}, depth), put(field(2, num(1), num(2)), path...)}, {ofPut([]byte{26, 0}, depth), put(field(3, in(msg())), path...)}, {ofPut([]byte{26, 2, 40, 1}, depth), put(field(3, in(unknown(varint(5, 1)))), path...)},
			{ofTake(1, depth), take(1, path...)}, {ofTake(77, depth), take(77, path...)}, {ofTake(300, depth), take(300, path...)}, {ofTake(api.MaxNumber, depth), take(api.MaxNumber, path...)},
			{ofKeep(nil, depth), keep(nil, path...)}, {ofKeep([]byte{72, 1, 8, 0, 74, 1, 255}, depth), keep([]api.Entry{varint(9, 1), varint(1, 0), chunk(9, "\xff")}, path...)},
		} {
			lookAtBytes(t, em(), 1, row.b, row.s)
			want, l = all(want, row.b), append(l, row.s)
			lookAtBytes(t, em(), 1, want, l...)
		}
	}
}

// TestP21_3Paths has paths of great numbers, and of many.
func TestP21_3Paths(t *testing.T) {
	x := em()
	for _, n := range []int{4, 15, 16, 127, 128, 300, 1<<14 - 1, 1 << 14, api.MaxNumber} {
		x.Types[1].Fields[2].Number = n
		d := samples.Digits(uint64(n))
		lookAtBytes(t, x, 1, entry(2, d, []byte{24, 1}), take(1, n))
		lookAtBytes(t, x, 1, entry(2, all(d, d, d), []byte{24, 1}), take(1, n, n, n))
		lookAtBytes(t, x, 1, entry(1, all(d, d), tag(2, api.Chunk), framed([]byte{8, 1})), put(field(1, num(1)), n, n))
		lookAtUnread(t, x, 1, entry(2, all(d, d[:len(d)-1], []byte{128}), []byte{24, 1}))
	}
	lookAtBytes(t, em(), 1, ofTake(1, 100000), take(1, slices.Repeat([]int{3}, 100000)...))
	lookAtBytes(t, wide(), 1, entry(1, []byte{5, 5, 5}, tag(2, api.Chunk), framed([]byte{21, 1, 0, 0, 0})), put(field(2, num(1)), 5, 5, 5))
	lookAtBytes(t, wide(), 1, entry(1, []byte{5, 5}, tag(2, api.Chunk), framed([]byte{8, 1})), put(field(1, num(-1)), 5, 5))
	lookAtBytes(t, samples.Crossed(), 0, entry(3, []byte{2, 3, 1, 2, 3}, tag(4, api.Chunk), framed(nil)), keep(nil, 2, 3, 1, 2, 3))
}

// TestP21_3Values has a field of each kind and label, with each value that it may have: what stands in its step is what Encode tells. What would not come back, and what is not typed, is refused.
func TestP21_3Values(t *testing.T) {
	eachSingle(func(x api.Table, f api.FieldType, of func(api.Val) api.Field) {
		good, bad := samples.Values(f.Kind)
		for i, v := range good {
			if i == 0 && f.Label == api.Plain {
				lookAtUnwritten(t, x, around, api.ErrRange, put(of(v)))
				continue
			}
			b, _ := interp.Encode(x, around, msg(of(v)))
			lookAtOne(t, x, b, put(of(v)))
		}
		for _, v := range bad {
			lookAtUnwritten(t, x, around, api.ErrType, put(of(v)))
		}
		switch f.Label {
		case api.Repeated, api.Packed:
			b, _ := interp.Encode(x, around, msg(field(number, good...)))
			lookAtOne(t, x, b, put(field(number, good...)))
			lookAtUnwritten(t, x, around, api.ErrRange, put(field(number)))
		case api.Map:
			lookAtUnwritten(t, x, around, api.ErrRange, put(field(number)))
		default:
			lookAtUnwritten(t, x, around, api.ErrType, put(field(number)))
			lookAtUnwritten(t, x, around, api.ErrType, put(field(number, good[:2]...)))
		}
	})
}

// lookAtOne sees the bytes of a Put at the message itself, of a table that samples.Single tells.
func lookAtOne(t *testing.T, x api.Table, b []byte, s delta.Step) {
	t.Helper()
	lookAtBytes(t, x, around, ofPut(b, 0), s)
}

// TestP21_3PutErrors has fields that are not typed, and such as are, but not normal, at the top and within.
func TestP21_3PutErrors(t *testing.T) {
	for _, path := range [][]int{nil, {3}, {3, 3}} {
		for _, n := range elsewhere() {
			lookAtUnwritten(t, em(), 1, api.ErrType, put(field(n, num(1)), path...))
			lookAtUnwritten(t, em(), 1, api.ErrType, put(field(n), path...))
		}
		for _, f := range []api.Field{field(1), field(1, num(0), num(0)), field(1, num(1<<31)), pairs(2, num(1), num(1)), field(3), field(3, in()), field(3, in(msg(field(9)))), field(3, in(msg(field(2), field(1, num(0))))), field(3, in(unknown(api.Entry{}))), field(3, in(msg(field(1, num(0)), field(9))))} {
			lookAtUnwritten(t, em(), 1, api.ErrType, put(f, path...))
		}
		for _, f := range []api.Field{field(1, num(0)), field(2), field(3, in(msg(field(1, num(0))))), field(3, in(msg(field(2)))), field(3, in(unknown(varint(1, 5)))), field(3, in(unknown(chunk(2, "\x01")))), field(3, in(unknown(varint(2, 1)))), field(3, in(nested(3, 12, msg(field(1, num(0)))))), field(3, in(unknown(varint(5, 1), chunk(3, ""))))} {
			lookAtUnwritten(t, em(), 1, api.ErrRange, put(f, path...))
		}
	}
	zero := in(msg(field(1, num(0))))
	for _, f := range []api.Field{field(8, in(msg()), zero), pairs(9, str("a"), in(msg(field(5, zero)))), field(12, zero), field(13, in(msg(field(5, zero)))), field(5, in(msg(field(5, zero)))), field(6), field(7), field(8), field(9), field(10), field(3, num(0))} {
		lookAtUnwritten(t, wide(), 1, api.ErrRange, put(f))
		lookAtUnwritten(t, wide(), 1, api.ErrRange, put(f, 5, 5))
		lookAtUnwritten(t, wide(), 1, api.ErrType, put(f, 5))
	}
	lookAtUnwritten(t, wide(), 1, api.ErrRange, put(field(2, str(""))))
}

// TestP21_3PutBounds has fields that are as deep and as big as can be, and one more: the path ahead of them does not count.
func TestP21_3PutBounds(t *testing.T) {
	for _, path := range [][]int{nil, slices.Repeat([]int{3}, 40)} {
		deep := func(n int, m api.Msg) delta.Step { return put(nested(3, n, m).Fields[0], path...) }
		lookAtBytes(t, em(), 1, ofPut(samples.Inside(3, 15, []byte{8, 1}), len(path)), deep(15, msg(field(1, num(1)))))
		for _, n := range []int{16, 17, 1000} {
			lookAtUnwritten(t, em(), 1, api.ErrTooDeep, deep(n, msg(field(1, num(1)))))
			lookAtUnwritten(t, em(), 1, api.ErrRange, deep(n, msg(field(1, num(0)))))
			lookAtUnwritten(t, em(), 1, api.ErrType, deep(n, msg(field(1, num(0)), field(9))))
		}
		row := func(n int) delta.Step { return put(field(2, slices.Repeat([]api.Val{num(1)}, n)...), path...) }
		const most = api.MaxMessage - 4
		lookAtBytes(t, em(), 1, ofPut(all([]byte{18}, framed(bytes.Repeat([]byte{1}, most))), len(path)), row(most))
		for _, more := range []int{1, 2, 100000} {
			lookAtUnwritten(t, em(), 1, api.ErrTooBig, row(most+more))
			lookAtUnwritten(t, em(), 1, api.ErrTooDeep, deep(16, unknown(chunk(9, strings.Repeat("a", most+more)))))
			lookAtUnwritten(t, em(), 1, api.ErrTooBig, deep(15, unknown(chunk(9, strings.Repeat("a", most+more)))))
			lookAtUnread(t, em(), 1, ofPut(all([]byte{18}, framed(bytes.Repeat([]byte{1}, most+more))), len(path)))
		}
		lookAtUnread(t, em(), 1, ofPut(samples.Inside(3, 16, []byte{8, 1}), len(path)))
	}
}

// TestP21_3Big has steps whose bytes are many more than a message's may be.
func TestP21_3Big(t *testing.T) {
	row := field(2, slices.Repeat([]api.Val{num(1)}, 60000)...)
	big := []api.Entry{chunk(9, strings.Repeat("a", 1<<20))}
	one := ofPut(all([]byte{18}, framed(bytes.Repeat([]byte{1}, 60000))), 0)
	joined := all([]byte{74}, framed(bytes.Repeat([]byte("a"), 1<<20)))
	lookAtBytes(t, em(), 1, all(one, one, ofKeep(joined, 1), one), put(row), put(row), keep(big, 3), put(row))
}

// TestP21_3Take has numbers that a field may have, of the type or not, and others.
func TestP21_3Take(t *testing.T) {
	for _, n := range []int{1, 2, 3, 4, 127, 128, 19000, 1 << 28, api.MaxNumber} {
		lookAtBytes(t, em(), 1, ofTake(uint64(n), 2), take(n, 3, 3))
		lookAtBytes(t, wide(), 2, ofTake(uint64(n), 0), take(n))
	}
	for _, n := range []int{0, -1, api.MaxNumber + 1, 1 << 32, 1<<32 + 1, 1 - 1<<32, math.MinInt, math.MaxInt} {
		lookAtUnwritten(t, em(), 1, api.ErrNumber, take(n))
		lookAtUnwritten(t, em(), 1, api.ErrNumber, take(n, 3, 3))
		lookAtUnread(t, em(), 1, ofTake(uint64(n), 0))
	}
}

// TestP21_3Keep has entries that can't be written: the first one's error is told.
func TestP21_3Keep(t *testing.T) {
	good := varint(9, 1)
	rows := []struct {
		x api.Entry
		e api.Errno
	}{
		{api.Entry{}, api.ErrNumber}, {varint(-1, 1), api.ErrNumber}, {varint(api.MaxNumber+1, 1), api.ErrNumber}, {api.Entry{Kind: 3}, api.ErrNumber}, {api.Entry{Number: 1, Kind: 3}, api.ErrKind}, {api.Entry{Number: 1, Kind: -1}, api.ErrKind}, {api.Entry{Number: 1, Kind: 6, N: 1, B: []byte("a")}, api.ErrKind},
		{api.Entry{Number: 1, B: []byte("a")}, api.ErrRange}, {api.Entry{Number: 1, Kind: api.Fix32, N: 1 << 32}, api.ErrRange}, {api.Entry{Number: 1, Kind: api.Chunk, N: 1}, api.ErrRange},
	}
	for _, row := range rows {
		for _, path := range [][]int{nil, {3, 3}} {
			lookAtUnwritten(t, em(), 1, row.e, keep([]api.Entry{row.x}, path...))
			lookAtUnwritten(t, em(), 1, row.e, keep([]api.Entry{good, row.x, {}}, path...))
			lookAtUnwritten(t, em(), 1, row.e, keep([]api.Entry{row.x, {Number: 1, Kind: 3}, good}, path...))
		}
	}
}

// TestP21_3PathErrors has paths that lead nowhere: by the types alone, whatever is there.
func TestP21_3PathErrors(t *testing.T) {
	refused := func(x api.Table, path ...int) {
		t.Helper()
		for _, s := range []delta.Step{put(field(1, num(5)), path...), put(field(9), path...), take(1, path...), take(0, path...), keep(nil, path...), keep([]api.Entry{{}}, path...)} {
			lookAtUnwritten(t, x, 1, api.ErrNone, s)
		}
		var b []byte
		for _, n := range path {
			b = all(b, samples.Digits(uint64(n)))
		}
		lookAtUnread(t, x, 1, entry(2, b, []byte{24, 1}))
		lookAtUnread(t, x, 1, entry(3, b, tag(4, api.Chunk), framed(nil)))
		lookAtUnread(t, x, 1, entry(1, b, tag(2, api.Chunk), framed([]byte{8, 5})))
	}
	for _, n := range append(elsewhere(), 1, 2) {
		refused(em(), n)
		refused(em(), 3, 3, n)
		refused(em(), n, 3)
		refused(em(), 3, n, 3)
	}
	for _, n := range []int{1, 2, 3, 4, 6, 7, 8, 9, 10, 11, 12, 13, 14, api.MaxNumber} {
		refused(wide(), n)
		refused(wide(), 5, 5, n)
	}
	refused(wide(), 5, 2)
}

// TestP21_3First has steps with several faults: Do ahead of the path, the path ahead of the rest, one step ahead of the next one.
func TestP21_3First(t *testing.T) {
	for _, do := range []int{0, -1, 4, math.MinInt, math.MaxInt, 1 << 32, 1<<32 + 1, api.MaxNumber} {
		for _, s := range []delta.Step{{Do: do}, {Do: do, Path: []int{9}}, {Do: do, Path: []int{3}, F: field(9)}, {Do: do, E: []api.Entry{{}}}} {
			lookAtUnwritten(t, em(), 1, api.ErrArg, s)
			lookAtUnwritten(t, em(), 1, api.ErrNone, take(1, 1), s)
			lookAtUnwritten(t, em(), 1, api.ErrRange, put(field(2)), s)
			lookAtUnwritten(t, em(), 1, api.ErrNumber, take(0), s)
		}
	}
	bad := []delta.Step{{}, take(0, 1), put(field(9)), put(field(2)), put(nested(3, 16, msg()).Fields[0]), take(0), keep([]api.Entry{{Number: 1, Kind: 3}})}
	errors := []api.Errno{api.ErrArg, api.ErrNone, api.ErrType, api.ErrRange, api.ErrTooDeep, api.ErrNumber, api.ErrKind}
	for i, first := range bad {
		for _, second := range bad {
			lookAtUnwritten(t, em(), 1, errors[i], first, second)
			lookAtUnwritten(t, em(), 1, errors[i], put(field(1, num(1)), 3), first, take(5), second)
		}
	}
}

// TestP21_3Unasked has steps in which something stands that is not told: it does not come back.
func TestP21_3Unasked(t *testing.T) {
	wild := in(samples.New(2103).Wild(3))
	more := []delta.Step{{Do: delta.Put, F: field(1, num(5)), E: []api.Entry{{}}}, {Do: delta.Take, F: pairs(1, wild, wild), E: []api.Entry{{}}}, {Do: delta.Keep, F: pairs(-7, wild, wild), E: []api.Entry{varint(9, 1)}}}
	want := all(ofPut([]byte{8, 5}, 0), ofTake(1, 0), ofKeep([]byte{72, 1}, 0))
	if b, e := delta.Bytes(em(), 1, more); e != api.OK || !bytes.Equal(b, want) {
		t.Errorf("Bytes: % d, error %d", b, e)
	}
	lookAtRead(t, em(), 1, want, put(field(1, num(5))), take(1), keep([]api.Entry{varint(9, 1)}))
}
