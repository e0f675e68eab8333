package scalar_test

import (
	"math"
	"testing"

	"cartouche/api"
	"cartouche/scalar"
)

// row is what the document says of a kind: of numbers the least and the greatest that fit, in two's complement.
type row struct {
	kind            int
	name            string
	wire            int
	numeric, key    bool
	least, greatest uint64
	signed          bool
}

const (
	low32  = uint64(math.MaxUint64 - 1<<31 + 1) // -2^31
	high32 = uint64(1<<31 - 1)
	low64  = uint64(1 << 63) // -2^63
	high64 = uint64(1<<63 - 1)
	all32  = uint64(1<<32 - 1)
	all64  = uint64(math.MaxUint64)
)

func rows() []row {
	return []row{
		{1, "bool", 0, true, true, 0, 1, false},
		{2, "int32", 0, true, true, low32, high32, true},
		{3, "int64", 0, true, true, low64, high64, true},
		{4, "uint32", 0, true, true, 0, all32, false},
		{5, "uint64", 0, true, true, 0, all64, false},
		{6, "sint32", 0, true, true, low32, high32, true},
		{7, "sint64", 0, true, true, low64, high64, true},
		{8, "fixed32", 5, true, true, 0, all32, false},
		{9, "fixed64", 1, true, true, 0, all64, false},
		{10, "sfixed32", 5, true, true, low32, high32, true},
		{11, "sfixed64", 1, true, true, low64, high64, true},
		{12, "float", 5, true, false, 0, all32, false},
		{13, "double", 1, true, false, 0, all64, false},
		{14, "string", 2, false, true, 0, 0, false},
		{15, "bytes", 2, false, false, 0, 0, false},
		{16, "", 0, true, false, 0, high32, false},
		{17, "", 2, false, false, 0, 0, false},
	}
}

// strangers are numbers that are no kind.
func strangers() []int {
	return []int{0, 18, 19, 32, 33, 257, 1<<32 + 1, -1, -2, -16, -255, math.MinInt, math.MaxInt}
}

// edgeNumbers are at the edges of every kind, and beside them.
func edgeNumbers() []uint64 {
	l := []uint64{0, 1, 2, 3, 63, 64, 127, 128, 255, 256, 300, 16383, 16384, 1 << 20, 1<<33 + 5}
	for _, n := range []uint64{low32, high32, low64, high64, all32, all64} {
		for d := uint64(0); d <= 4; d++ {
			l = append(l, n+d-2)
		}
	}
	return l
}

// inside tells by the document's words whether a number fits a kind of numbers.
func inside(r row, n uint64) bool {
	if r.signed {
		return int64(n) >= int64(r.least) && int64(n) <= int64(r.greatest)
	}
	return n >= r.least && n <= r.greatest
}

func number(n int64) api.Val { return api.Val{N: uint64(n)} }

func text(s string) api.Val { return api.Val{B: []byte(s)} }

func message() []api.Msg { return []api.Msg{{}} }

func TestP3_1Kinds(t *testing.T) {
	for i, r := range rows() {
		if r.kind != i+1 {
			t.Fatalf("row %d is of kind %d", i, r.kind)
		}
		if w, e := scalar.Wire(r.kind); w != r.wire || e != api.OK {
			t.Errorf("Wire(%d) = %d, %d; want %d", r.kind, w, e, r.wire)
		}
		if scalar.Numeric(r.kind) != r.numeric {
			t.Errorf("Numeric(%d) is not %v", r.kind, r.numeric)
		}
		if scalar.IsKey(r.kind) != r.key {
			t.Errorf("IsKey(%d) is not %v", r.kind, r.key)
		}
	}
	for _, kind := range strangers() {
		if w, e := scalar.Wire(kind); w != 0 || e != api.ErrArg {
			t.Errorf("Wire(%d) = %d, %d", kind, w, e)
		}
		if scalar.Numeric(kind) || scalar.IsKey(kind) {
			t.Errorf("%d is no kind, but Numeric is %v and IsKey %v", kind, scalar.Numeric(kind), scalar.IsKey(kind))
		}
	}
}

func wantFits(t *testing.T, kind int, v api.Val, want bool) {
	t.Helper()
	if scalar.Fits(kind, v) != want {
		t.Errorf("Fits(%d, %v) is not %v", kind, v, want)
	}
}

func TestP3_1FitsNumbers(t *testing.T) {
	for _, r := range rows() {
		if !r.numeric {
			continue
		}
		for _, n := range edgeNumbers() {
			wantFits(t, r.kind, api.Val{N: n}, inside(r, n))
		}
		wantFits(t, r.kind, api.Val{N: 1, B: []byte{}, M: []api.Msg{}}, true)
		wantFits(t, r.kind, api.Val{N: 1, B: []byte{0}}, false)
		wantFits(t, r.kind, api.Val{B: []byte("a")}, false)
		wantFits(t, r.kind, api.Val{N: 1, M: message()}, false)
		wantFits(t, r.kind, api.Val{M: message()}, false)
		wantFits(t, r.kind, number(-1), r.signed || r.greatest == all64)
	}
}

func TestP3_1FitsEdges(t *testing.T) {
	for _, c := range []struct {
		kind int
		n    int64
		fits bool
	}{
		{api.Bool, 0, true}, {api.Bool, 1, true}, {api.Bool, 2, false}, {api.Bool, -1, false},
		{api.Int32, -1 << 31, true}, {api.Int32, -1<<31 - 1, false}, {api.Int32, 1<<31 - 1, true}, {api.Int32, 1 << 31, false}, {api.Int32, 1<<32 - 1, false},
		{api.Sint32, -1 << 31, true}, {api.Sint32, -1<<31 - 1, false}, {api.Sint32, 1 << 31, false},
		{api.Sfixed32, -1 << 31, true}, {api.Sfixed32, -1<<31 - 1, false}, {api.Sfixed32, 1 << 31, false},
		{api.Enum, 0, true}, {api.Enum, 1<<31 - 1, true}, {api.Enum, 1 << 31, false}, {api.Enum, -1, false}, {api.Enum, -1 << 31, false},
		{api.Uint32, 1<<32 - 1, true}, {api.Uint32, 1 << 32, false}, {api.Fixed32, 1 << 32, false}, {api.Float, 1 << 32, false},
		{api.Uint64, -1, true}, {api.Fixed64, -1, true}, {api.Double, -1, true}, {api.Int64, math.MinInt64, true}, {api.Sint64, math.MinInt64, true}, {api.Sfixed64, math.MinInt64, true},
	} {
		wantFits(t, c.kind, number(c.n), c.fits)
	}
}

func TestP3_1FitsBytes(t *testing.T) {
	for _, kind := range []int{api.String, api.Bytes} {
		wantFits(t, kind, api.Val{}, true)
		wantFits(t, kind, text("a"), true)
		wantFits(t, kind, text("\xff"), true) // UTF-8 is asked by the calls that write it
		wantFits(t, kind, api.Val{B: []byte("a"), M: []api.Msg{}}, true)
		wantFits(t, kind, api.Val{N: 1}, false)
		wantFits(t, kind, api.Val{N: 1 << 63, B: []byte("a")}, false)
		wantFits(t, kind, api.Val{B: []byte("a"), M: message()}, false)
		wantFits(t, kind, api.Val{M: message()}, false)
	}
}

func TestP3_1FitsOtherKinds(t *testing.T) {
	for _, kind := range append(strangers(), api.Message) {
		for _, v := range []api.Val{{}, {N: 1}, {B: []byte("a")}, {M: message()}} {
			wantFits(t, kind, v, false)
		}
	}
}

func TestP3_3Names(t *testing.T) {
	for _, r := range rows()[:15] {
		if name, e := scalar.Name(r.kind); name != r.name || e != api.OK {
			t.Errorf("Name(%d) = %q, %d; want %q", r.kind, name, e, r.name)
		}
		if kind, e := scalar.Kind(r.name); kind != r.kind || e != api.OK {
			t.Errorf("Kind(%q) = %d, %d; want %d", r.name, kind, e, r.kind)
		}
	}
	for _, kind := range append(strangers(), api.Enum, api.Message) {
		if name, e := scalar.Name(kind); name != "" || e != api.ErrArg {
			t.Errorf("Name(%d) = %q, %d", kind, name, e)
		}
	}
	for _, name := range []string{"", "Bool", "BOOL", "bool ", " bool", "boo", "boolx", "int", "int16", "enum", "message", "map", "group", "string\x00", "Bytes", "1"} {
		if kind, e := scalar.Kind(name); kind != 0 || e != api.ErrName {
			t.Errorf("Kind(%q) = %d, %d", name, kind, e)
		}
	}
}
