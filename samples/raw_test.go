package samples_test

import (
	"bytes"
	"math"
	"testing"

	"cartouche/api"
	"cartouche/samples"
	"cartouche/scalar"
	"cartouche/wire"
)

// TestRaw holds bytes that are laid here against those that the layers lay.
func TestRaw(t *testing.T) {
	for _, n := range []uint64{0, 1, 127, 128, 300, 16383, 16384, 1<<32 - 1, 1 << 63, math.MaxUint64} {
		if !bytes.Equal(samples.Digits(n), wire.PutVarint(n)) || !bytes.Equal(samples.Low(n, 8), wire.PutFix64(n)) || !bytes.Equal(samples.Low(n, 4), wire.PutFix32(uint32(n))) {
			t.Errorf("%d: % d, % d, % d", n, samples.Digits(n), samples.Low(n, 8), samples.Low(n, 4))
		}
	}
	m := samples.New(15)
	for range 500 {
		x := m.Entry()
		if b, e := wire.PutEntry(x); e != api.OK || !bytes.Equal(b, samples.Join(samples.Tag(x.Number, x.Kind), samples.Behind(x))) {
			t.Errorf("%+v: % d", x, samples.Behind(x))
		}
	}
	for kind := api.Bool; kind <= api.Enum; kind++ {
		good, _ := samples.Values(kind)
		for _, v := range good {
			if b, e := scalar.Put(kind, v); e != api.OK || !bytes.Equal(b, samples.Bare(kind, v)) {
				t.Errorf("kind %d, %+v: % d", kind, v, samples.Bare(kind, v))
			}
		}
	}
	if b := samples.Inside(2, 2, []byte{8, 1}); !bytes.Equal(b, []byte{18, 4, 18, 2, 8, 1}) {
		t.Errorf("% d", b)
	}
	if b := samples.Spare([]byte{1, 2}); !bytes.Equal(b, []byte{1, 2}) || cap(b) < 5 || b[:5][4] != 8 {
		t.Errorf("% d", b)
	}
}
