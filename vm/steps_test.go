package vm_test

import (
	"testing"

	"cartouche/api"
	"cartouche/vm"
)

func TestP15_3Examples(t *testing.T) {
	l := both(t, lowered(t, em()))
	lookAtRead(t, l[0], 1, []byte{8, 5}, msg(field(1, num(5))), 6)
	lookAtRead(t, l[1], 1, []byte{8, 5}, msg(field(1, num(5))), 5)
}

// TestP15_3Counts: a step is counted each time that it is done, and those within messages too.
func TestP15_3Counts(t *testing.T) {
	l := both(t, lowered(t, em()))
	for _, x := range []struct {
		b                  []byte
		lowered, optimised int
	}{
		{nil, 1, 1}, {[]byte{16, 1}, 7, 5}, {[]byte{18, 2, 1, 2}, 7, 5}, {[]byte{18, 0}, 7, 5}, {[]byte{26, 0}, 9, 6}, {[]byte{26, 2, 8, 1}, 14, 10}, {[]byte{26, 2, 26, 0}, 17, 11}, {[]byte{80, 0}, 8, 5}, {[]byte{8, 1, 8, 1}, 11, 9}, {[]byte{26, 0, 26, 0}, 17, 11},
	} {
		for i, want := range []int{x.lowered, x.optimised} {
			if n, e := vm.Steps(l[i], 1, x.b); n != want || e != api.OK {
				t.Errorf("Steps(% d), program %d: %d, error %d; want %d", x.b, i, n, e, want)
			}
		}
	}
}

// TestP15_3Faults: the steps ahead of a fault are not told.
func TestP15_3Faults(t *testing.T) {
	for _, p := range both(t, lowered(t, em())) {
		for _, x := range []struct {
			b    []byte
			want api.Errno
		}{{[]byte{8}, api.ErrEnd}, {[]byte{8, 1, 11}, api.ErrKind}, {[]byte{26, 2, 8, 1, 0}, api.ErrNumber}, {make([]byte, 65537), api.ErrTooBig}, {inside(3, 16, nil), api.ErrTooDeep}} {
			lookAtFault(t, p, 1, x.b, x.want)
		}
		lookAtFault(t, p, 0, nil, api.ErrArg)
		lookAtFault(t, p, 2, nil, api.ErrArg)
	}
}
