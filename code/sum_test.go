package code_test

import (
	"math/big"
	"testing"

	"cartouche/api"
	"cartouche/code"
	"cartouche/plan"
	"cartouche/samples"
)

// reckoned tells the sum in numbers of any size, of which what is above 2^64 is cut off at the end of each step.
func reckoned(b []byte) uint64 {
	h, _ := new(big.Int).SetString("14695981039346656037", 10)
	factor := big.NewInt(1099511628211)
	whole := new(big.Int).Lsh(big.NewInt(1), 64)
	for _, c := range b {
		h.Xor(h, big.NewInt(int64(c)))
		h.Mul(h, factor)
		h.Mod(h, whole)
	}
	return h.Uint64()
}

func TestP16_3Sum(t *testing.T) {
	for _, x := range []struct {
		p    plan.Program
		b    []byte
		want uint64
	}{
		{plan.Program{}, []byte{67, 84, 0}, 816001565270436086},
		{enum(), []byte{67, 84, 1, 0, 0, 1, 0, 0}, 14259730817420049072},
		{of(block("Tag; Go 0", "End", "")), []byte{67, 84, 1, 2, 1, 0, 1, 4, 0, 24}, 8635911613541076613},
		{of(plan.Block{Rows: rows("2147483647 0")}), []byte{67, 84, 1, 0, 0, 1, 255, 255, 255, 255, 7, 0}, 3869007051465691715},
	} {
		if got, e := code.Sum(x.p); e != api.OK || got != x.want || got != reckoned(x.b) {
			t.Errorf("Sum(%s) is %d, error %d, want %d", brief(x.p), got, e, x.want)
		}
		lookAtSum(t, "by hand", x.p, x.b)
	}
}

// TestP16_3Many has the sum of what Bytes tells.
func TestP16_3Many(t *testing.T) {
	m := samples.New(163)
	sums := map[uint64]plan.Program{}
	for range 2000 {
		p := some(t, m)
		b, _ := code.Bytes(p)
		got, e := code.Sum(p)
		if e != api.OK || got != reckoned(b) {
			t.Errorf("Sum(%s) is %d, error %d, want %d", brief(p), got, e, reckoned(b))
		}
		if other, ok := sums[got]; ok && !same(other, p) {
			t.Errorf("%s and %s have one sum", brief(p), brief(other))
		}
		sums[got] = p
	}
}

func TestP16_3NotValid(t *testing.T) {
	for what, p := range notValid() {
		if n, e := code.Sum(p); e != api.ErrProgram || n != 0 {
			t.Errorf("%s: Sum is %d, error %d", what, n, e)
		}
	}
}
