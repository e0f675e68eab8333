package vm_test

import (
	"bytes"
	"testing"

	"cartouche/api"
	"cartouche/check"
	"cartouche/interp"
	"cartouche/model"
	"cartouche/plan"
	"cartouche/samples"
	"cartouche/self"
	"cartouche/vm"
)

// lookAtBoth holds the machine against the interpreter (T1), by bytes: with the lowered program and with the optimised one.
func lookAtBoth(t *testing.T, x api.Table, l []plan.Program, index int, b []byte) api.Errno {
	t.Helper()
	want, wantE := interp.Decode(x, index, b)
	before := 0
	for i, p := range l {
		got, e := vm.Decode(p, index, b)
		if e != wantE || !model.Equal(got, want) {
			t.Errorf("Decode(%s), program %d: %s, error %d; want %s, error %d; table %s", short(b), i, shortly(got), e, shortly(want), wantE, brief(x))
		}
		n, e := vm.Steps(p, index, b)
		if e != wantE || (n == 0) != (e != api.OK) || i > 0 && n > before {
			t.Errorf("Steps(%s), program %d: %d, error %d; want error %d, and not more than %d; table %s", short(b), i, n, e, wantE, before, brief(x))
		}
		before = n
	}
	return wantE
}

// lookAtBothWritten holds them against each other by a typed message.
func lookAtBothWritten(t *testing.T, x api.Table, l []plan.Program, index int, m api.Msg) api.Errno {
	t.Helper()
	want, wantE := interp.Encode(x, index, m)
	size, sizeE := interp.Size(x, index, m)
	for i, p := range l {
		if b, e := vm.Encode(p, index, m); e != wantE || !bytes.Equal(b, want) {
			t.Errorf("Encode(%s), program %d: %s, error %d; want %s, error %d; table %s", shortly(m), i, short(b), e, short(want), wantE, brief(x))
		}
		if n, e := vm.Size(p, index, m); e != sizeE || n != size {
			t.Errorf("Size(%s), program %d: %d, error %d; want %d, error %d; table %s", shortly(m), i, n, e, size, sizeE, brief(x))
		}
	}
	return wantE
}

// messagesOf tells the indices of a table's messages.
func messagesOf(x api.Table) []int {
	var out []int
	for i, own := range x.Types {
		if !own.Enum {
			out = append(out, i)
		}
	}
	return out
}

// tables are those that were made by hand.
func tables(t *testing.T) []api.Table {
	t.Helper()
	x, f := check.Compile(samples.Files())
	if f.Code != api.OK {
		t.Fatalf("Compile: %+v", f)
	}
	return append(samples.Singles(), em(), wide(), samples.Full(), x, self.Meta())
}

func TestP15_4Read(t *testing.T) {
	m := samples.New(1541)
	counts := map[api.Errno]int{}
	look := func(x api.Table, times int) {
		l := both(t, lowered(t, x))
		for _, index := range messagesOf(x)[:min(4, len(messagesOf(x)))] {
			for range times {
				b := m.Bytes(x, index, 4)
				for range m.Below(3) * m.Below(2) {
					b = m.Bent(b)
				}
				counts[lookAtBoth(t, x, l, index, b)]++
			}
		}
	}
	for _, x := range tables(t) {
		look(x, 20)
	}
	for range 2500 {
		look(samples.Pick(m, m.Table, m.Table, m.Rich)(), 3)
	}
	for _, e := range []api.Errno{api.OK, api.ErrEnd, api.ErrVarint, api.ErrNumber, api.ErrKind, api.ErrRange, api.ErrText, api.ErrSymbol} {
		if counts[e] < 20 {
			t.Errorf("error %d was seen %d times", e, counts[e])
		}
	}
	if counts[api.OK] < 10000 {
		t.Errorf("%d byte strings were read", counts[api.OK])
	}
}

func TestP15_4Written(t *testing.T) {
	m := samples.New(1542)
	counts := map[api.Errno]int{}
	look := func(x api.Table, times int) {
		l := both(t, lowered(t, x))
		for _, index := range messagesOf(x)[:min(4, len(messagesOf(x)))] {
			for range times {
				a := m.Message(x, index, 4)
				counts[lookAtBothWritten(t, x, l, index, a)]++
			}
		}
	}
	for _, x := range tables(t) {
		look(x, 20)
	}
	for range 2500 {
		look(samples.Pick(m, m.Table, m.Table, m.Rich)(), 3)
	}
	if counts[api.OK] < 10000 {
		t.Errorf("%d messages were written", counts[api.OK])
	}
}

// TestP15_4Bounds has what is as great or as deep as can be, and more (T2): the depth is asked ahead of the size.
func TestP15_4Bounds(t *testing.T) {
	x := wide()
	l := both(t, lowered(t, x))
	blobs := func(size int) api.Msg { return msg(field(2, api.Val{B: make([]byte, size-1-ahead(size-1))})) }
	for _, around := range []int{0, 1, 14, 15, 16, 17, 40} {
		for _, number := range []int{8, 12} {
			want := api.OK
			if around > 15 {
				want = api.ErrTooDeep
			}
			for _, b := range [][]byte{nil, {8, 1}, {74, 2, 18, 0}, {82, 0}} {
				if e := lookAtBoth(t, x, l, 1, inside(number, around, b)); e != want && !(around == 15 && len(b) == 4) {
					t.Errorf("%d around: error %d", around, e)
				}
			}
			if e := lookAtBothWritten(t, x, l, 1, samples.Nested(number, around, msg(field(1, num(-1))))); e != want {
				t.Errorf("%d around: error %d", around, e)
			}
		}
	}
	for _, size := range []int{api.MaxMessage, api.MaxMessage + 1, api.MaxSize, api.MaxSize + 1} {
		want := api.OK
		if size > api.MaxMessage {
			want = api.ErrTooBig
		}
		if e := lookAtBothWritten(t, x, l, 1, blobs(size)); e != want {
			t.Errorf("%d bytes: error %d", size, e)
		}
		lookAtBothWritten(t, x, l, 1, samples.Nested(8, 1, blobs(size-5)))
		if e := lookAtBothWritten(t, x, l, 1, samples.Nested(8, 16, blobs(size))); e != api.ErrTooDeep {
			t.Errorf("%d bytes, too deep: error %d", size, e)
		}
	}
	for _, b := range [][]byte{make([]byte, api.MaxMessage), make([]byte, api.MaxMessage+1), bytes.Repeat([]byte{88, 1}, api.MaxMessage/2), bytes.Repeat([]byte{11}, api.MaxMessage+1), all(bytes.Repeat([]byte{88, 1}, api.MaxMessage/2), []byte{8})} {
		lookAtBoth(t, x, l, 1, b)
	}
}

// TestP15_4Short has all byte strings that are short enough, of a type with most labels.
func TestP15_4Short(t *testing.T) {
	x := wide()
	l := both(t, lowered(t, x))
	for one := range 256 {
		lookAtBoth(t, x, l, 1, []byte{byte(one)})
		for two := range 128 {
			lookAtBoth(t, x, l, 1, []byte{byte(one), byte(2 * two)})
		}
	}
	some := []byte{0, 1, 2, 8, 10, 16, 18, 128, 255}
	for i := range len(some) * len(some) * len(some) {
		k := len(some)
		for _, ahead := range []byte{74, 82, 50, 66} {
			lookAtBoth(t, x, l, 1, []byte{ahead, some[i%k], some[i/k%k], some[i/k/k]})
		}
	}
}

// TestP14_6Machine: what opt makes of any valid program does the same, in not more steps.
func TestP14_6Machine(t *testing.T) {
	m := samples.New(1543)
	for range 6000 {
		l := both(t, valid(t, someValid(m)))
		c := chance{m, l[0].Blocks}
		b, a := c.bytes(0, 2), c.message(0, 2)
		if m.Below(3) == 0 {
			b, a = m.Bent(b), m.Changed(a)
		}
		first, e := vm.Decode(l[0], 0, b)
		second, e2 := vm.Decode(l[1], 0, b)
		if e != e2 || !model.Equal(first, second) {
			t.Errorf("%s\nDecode(%s): %s, error %d; optimised %s, error %d", dec(l[0], 0), short(b), shortly(first), e, shortly(second), e2)
		}
		n, _ := vm.Steps(l[0], 0, b)
		if n2, _ := vm.Steps(l[1], 0, b); n2 > n {
			t.Errorf("%s\nSteps(%s): %d, optimised %d", dec(l[0], 0), short(b), n, n2)
		}
		one, e := vm.Encode(l[0], 0, a)
		two, e2 := vm.Encode(l[1], 0, a)
		if e != e2 || !bytes.Equal(one, two) {
			t.Errorf("%s\nEncode(%s): %s, error %d; optimised %s, error %d", enc(l[0], 0), shortly(a), short(one), e, short(two), e2)
		}
	}
}
