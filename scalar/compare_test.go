package scalar_test

import (
	"bytes"
	"cmp"
	"testing"

	"cartouche/api"
	"cartouche/scalar"
)

func wantCompare(t *testing.T, kind int, a, b api.Val, want int, e api.Errno) {
	t.Helper()
	if got, gotE := scalar.Compare(kind, a, b); got != want || gotE != e {
		t.Errorf("Compare(%d, %v, %v) = %d, %d; want %d, %d", kind, a, b, got, gotE, want, e)
	}
}

func TestP3_5Numbers(t *testing.T) {
	for _, r := range rows() {
		if !r.key || !r.numeric {
			continue
		}
		for _, a := range edgeNumbers() {
			for _, b := range edgeNumbers() {
				want, e := cmp.Compare(a, b), api.OK
				switch {
				case !inside(r, a) || !inside(r, b):
					want, e = 0, api.ErrRange
				case r.signed:
					want = cmp.Compare(int64(a), int64(b))
				}
				wantCompare(t, r.kind, api.Val{N: a}, api.Val{N: b}, want, e)
			}
		}
		wantCompare(t, r.kind, number(1), api.Val{N: 1, B: []byte{}, M: []api.Msg{}}, 0, api.OK)
	}
	wantCompare(t, api.Int64, number(-1), number(1), -1, api.OK)
	wantCompare(t, api.Uint64, number(-1), number(1), 1, api.OK)
	wantCompare(t, api.Fixed64, number(-1), number(1), 1, api.OK)
	wantCompare(t, api.Sfixed32, number(-1), number(-2), 1, api.OK)
	wantCompare(t, api.Sint32, number(5), number(5), 0, api.OK)
	wantCompare(t, api.Bool, number(0), number(1), -1, api.OK)
}

func TestP3_5Texts(t *testing.T) {
	l := []string{"", "\x00", "a", "a\x00", "aa", "ab", "abc", "b", "ba", "\x7f", "\u00e4", "\u00e4a", "\uffff", "\U00010000", "\xff", "\xff\x00"}
	for _, a := range l {
		for _, b := range l {
			wantCompare(t, api.String, text(a), text(b), bytes.Compare([]byte(a), []byte(b)), api.OK)
		}
	}
	wantCompare(t, api.String, text("a"), text("ab"), -1, api.OK)
	wantCompare(t, api.String, text("ab"), text("b"), -1, api.OK)
	wantCompare(t, api.String, text("\xff"), text("z"), 1, api.OK) // bytes are compared, not signs
	wantCompare(t, api.String, api.Val{}, api.Val{B: []byte{}}, 0, api.OK)
}

func TestP3_5Faults(t *testing.T) {
	for _, kind := range append(strangers(), api.Float, api.Double, api.Bytes, api.Enum, api.Message) {
		wantCompare(t, kind, api.Val{}, api.Val{}, 0, api.ErrArg)
		wantCompare(t, kind, api.Val{N: all64, B: []byte{1}}, api.Val{M: message()}, 0, api.ErrArg)
	}
	for _, r := range rows() {
		if !r.key {
			continue
		}
		wrong := []api.Val{{M: message()}, {N: 1, B: []byte{1}}}
		for _, v := range wrong {
			wantCompare(t, r.kind, v, api.Val{}, 0, api.ErrRange)
			wantCompare(t, r.kind, api.Val{}, v, 0, api.ErrRange)
			wantCompare(t, r.kind, v, v, 0, api.ErrRange)
		}
	}
	wantCompare(t, api.String, number(1), text("a"), 0, api.ErrRange)
	wantCompare(t, api.Int32, text("a"), number(1), 0, api.ErrRange)
	wantCompare(t, api.Bool, number(0), number(2), 0, api.ErrRange)
}
