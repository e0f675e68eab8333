package scalar_test

import (
	"bytes"
	"math/rand"
	"testing"

	"cartouche/api"
	"cartouche/scalar"
)

// fitting are values that fit a kind, its edges among them.
func fitting(r row) []api.Val {
	var l []api.Val
	if r.numeric {
		for _, n := range edgeNumbers() {
			if inside(r, n) {
				l = append(l, api.Val{N: n})
			}
		}
		return l
	}
	for _, s := range []string{"", "a", "\x00", "a\"\n\\", "\u00e4\u20ac\U0001f600", string(bytes.Repeat([]byte{'x'}, 300))} {
		l = append(l, text(s))
	}
	if r.kind == api.Bytes {
		l = append(l, text("\xff"), text("\xc3\x28\x80"))
	}
	return l
}

func TestP3_6Back(t *testing.T) {
	for _, r := range rows()[:16] {
		for _, v := range fitting(r) {
			b, e := scalar.Put(r.kind, v)
			if e != api.OK {
				t.Fatalf("Put(%d, %v): %d", r.kind, v, e)
			}
			for _, more := range [][]byte{nil, {0}, {1}, {128}, {255, 255, 255}} {
				wantGet(t, r.kind, append(bytes.Clone(b), more...), 0, v, len(b), api.OK)
			}
			s, e := scalar.Text(r.kind, v)
			if e != api.OK {
				t.Fatalf("Text(%d, %v): %d", r.kind, v, e)
			}
			wantParse(t, r.kind, s, v, api.OK)
			again, _ := scalar.Put(r.kind, api.Val{N: v.N, B: bytes.Clone(v.B), M: []api.Msg{}})
			if len(again) != len(b) {
				t.Errorf("Put(%d, %v) has %d bytes, and %d for an equal value", r.kind, v, len(b), len(again))
			}
		}
	}
}

func TestP3_6BackChance(t *testing.T) {
	chance := rand.New(rand.NewSource(3))
	for range 3000 {
		r := rows()[chance.Intn(16)]
		v := api.Val{N: chance.Uint64() >> chance.Intn(64)}
		if !r.numeric {
			v = api.Val{B: []byte(string([]rune{rune(chance.Intn(0x300)), rune(chance.Intn(0xd800)), rune(chance.Intn(128))}))}
		}
		if !scalar.Fits(r.kind, v) {
			continue
		}
		b, _ := scalar.Put(r.kind, v)
		wantGet(t, r.kind, b, 0, v, len(b), api.OK)
		s, _ := scalar.Text(r.kind, v)
		wantParse(t, r.kind, s, v, api.OK)
	}
}

func TestP3_6Order(t *testing.T) {
	for _, r := range rows() {
		if !r.key {
			continue
		}
		compare := func(a, b api.Val) int {
			n, e := scalar.Compare(r.kind, a, b)
			if e != api.OK {
				t.Fatalf("Compare(%d, %v, %v): %d", r.kind, a, b, e)
			}
			return n
		}
		l := fitting(r)
		for _, a := range l {
			for _, b := range l {
				if compare(a, b) != -compare(b, a) || (compare(a, b) == 0) != sameVal(a, b) {
					t.Errorf("kind %d: %v and %v: %d and %d", r.kind, a, b, compare(a, b), compare(b, a))
				}
				for _, c := range l {
					if compare(a, b) <= 0 && compare(b, c) <= 0 && compare(a, c) > 0 {
						t.Errorf("kind %d: %v, %v, %v are in no order", r.kind, a, b, c)
					}
				}
			}
		}
	}
}

// TestR1R2 asks every call for all kinds of wrong things: none panics, and with an error nothing else is answered.
func TestR1R2(t *testing.T) {
	vals := []api.Val{{}, {N: 1}, {N: 2}, {N: all64}, {B: []byte{}}, {B: []byte("\xff")}, {B: []byte("a")}, {M: message()}, {M: []api.Msg{{}, {}}}, {N: 1, B: []byte("a"), M: message()}}
	lists := [][]byte{nil, {}, {0}, {1}, {2}, {1, 255}, {128}, {255, 255, 255, 255, 15}, bytes.Repeat([]byte{255}, 12), bytes.Repeat([]byte{128}, 12), {9, 1}}
	texts := []string{"", "-", "1", "-1", "true", `"a"`, `"\xff"`, "f3f800000", "d3ff0000000000000", "x", "\xff", "99999999999999999999"}
	for _, kind := range append(strangers(), 1, 2, 3, 4, 5, 6, 7, 8, 9, 10, 11, 12, 13, 14, 15, 16, 17) {
		for _, v := range vals {
			if b, e := scalar.Put(kind, v); e != api.OK && len(b) > 0 {
				t.Errorf("Put(%d, %v): %v beside error %d", kind, v, b, e)
			}
			if s, e := scalar.Text(kind, v); e != api.OK && s != "" {
				t.Errorf("Text(%d, %v): %q beside error %d", kind, v, s, e)
			}
			for _, w := range vals {
				if n, e := scalar.Compare(kind, v, w); e != api.OK && n != 0 {
					t.Errorf("Compare(%d, %v, %v): %d beside error %d", kind, v, w, n, e)
				}
			}
		}
		for _, b := range lists {
			for at := -2; at < len(b)+3; at++ {
				v, next, e := scalar.Get(kind, b, at)
				if e != api.OK && (v.N != 0 || v.B != nil || v.M != nil || next != 0) {
					t.Errorf("Get(%d, %v, %d): %v, %d beside error %d", kind, b, at, v, next, e)
				}
			}
		}
		for _, s := range texts {
			if v, e := scalar.Parse(kind, s); e != api.OK && (v.N != 0 || v.B != nil || v.M != nil) {
				t.Errorf("Parse(%d, %q): %v beside error %d", kind, s, v, e)
			}
		}
	}
}

// TestR4ArgumentsStay looks at what was handed in, spare room too.
func TestR4ArgumentsStay(t *testing.T) {
	for _, r := range rows() {
		whole := bytes.Repeat([]byte{1, 97, 97, 97, 200, 255}, 8)
		before := bytes.Clone(whole)
		for _, size := range []int{0, 2, 4, 9, 20} {
			b := whole[:size]
			scalar.Get(r.kind, b, 0)
			v := api.Val{B: b, M: message()[:0]}
			scalar.Fits(r.kind, v)
			scalar.Put(r.kind, v)
			scalar.Text(r.kind, v)
			scalar.Compare(r.kind, v, v)
			if !bytes.Equal(whole, before) {
				t.Errorf("kind %d: what was handed in was changed: %v", r.kind, whole)
			}
		}
	}
}

// TestR4AnswersAreNew spoils what was handed in, and what was answered.
func TestR4AnswersAreNew(t *testing.T) {
	for _, kind := range []int{api.String, api.Bytes} {
		in := []byte{3, 'a', 'b', 'c', 'd', 'e'}
		v, _, e := scalar.Get(kind, in, 0)
		other, _, _ := scalar.Get(kind, in, 0)
		out, f := scalar.Put(kind, v)
		if e != api.OK || f != api.OK {
			t.Fatalf("kind %d: errors %d, %d", kind, e, f)
		}
		spoil(in)
		if string(v.B) != "abc" {
			t.Errorf("kind %d: Get's answer changed with its argument: %q", kind, v.B)
		}
		spoil(v.B)
		if string(other.B) != "abc" || string(out) != "\x03abc" {
			t.Errorf("kind %d: an answer changed with another: %q, %q", kind, other.B, out)
		}
		p, _ := scalar.Parse(kind, `"abc"`)
		spoil(p.B)
		wantParse(t, kind, `"abc"`, text("abc"), api.OK)
	}
	b, _ := scalar.Put(api.Fixed32, number(7))
	spoil(b)
	wantPut(t, api.Fixed32, number(7), []byte{7, 0, 0, 0}, api.OK)
}

// spoil writes over a list, its spare room too.
func spoil(b []byte) {
	room := b[:cap(b)]
	for i := range room {
		room[i] ^= 0xff
	}
}
