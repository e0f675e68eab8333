package interp_test

import (
	"bytes"
	"fmt"
	"math"
	"slices"
	"sync"
	"testing"
	"time"

	"cartouche/api"
	"cartouche/interp"
	"cartouche/samples"
)

// ask asks each call, and tells all answers; beside an error each answer must be zero.
func ask(t *testing.T, x api.Table, index int, b []byte, m api.Msg) string {
	t.Helper()
	read, e1 := interp.Decode(x, index, b)
	written, e2 := interp.Encode(x, index, m)
	size, e3 := interp.Size(x, index, m)
	known, unknown, e4 := interp.Entries(x, index, b)
	if e1 != api.OK && told(read) != "{}" || e2 != api.OK && len(written) > 0 || e3 != api.OK && size != 0 || e4 != api.OK && known+unknown != 0 {
		t.Errorf("% d, %s: more than an error is told", b, shortly(m))
	}
	if e1 != e4 || e2 != e3 && e2 != api.ErrTooBig || (e1 == api.ErrArg) != (e2 == api.ErrArg) || e2 == api.OK && size != len(written) || known < 0 || unknown < 0 {
		t.Errorf("% d, %s: errors %d, %d, %d, %d", b, shortly(m), e1, e2, e3, e4)
	}
	return fmt.Sprint(told(read), e1, written, e2, size, e3, known, unknown, e4)
}

// TestR1R2 has tables that are not good, any index, any bytes, and messages that are not typed: none panics.
func TestR1R2(t *testing.T) {
	m := samples.New(97)
	for range 6000 {
		x := m.Table()
		b := m.Bytes(x, 0, 3)
		if m.Below(2) == 0 {
			x = m.Spoiled(x)
		}
		for range m.Below(4) {
			b = m.Bent(b)
		}
		if m.Below(4) == 0 {
			b = nil
			for range m.Below(30) {
				b = append(b, byte(m.Below(256)))
			}
		}
		a := m.Wild(3)
		if m.Below(2) == 0 {
			a = m.Changed(m.Message(m.Table(), 0, 2))
		}
		ask(t, x, samples.Pick(m, m.Below(len(x.Types)+2)-1, 0, 0, math.MinInt, math.MaxInt), b, a)
	}
}

// TestR1Short has all byte strings that are short enough.
func TestR1Short(t *testing.T) {
	for one := range 256 {
		lookAgain(t, keyed(), 0, []byte{byte(one)})
		for two := range 256 {
			lookAgain(t, keyed(), 0, []byte{byte(one), byte(two)})
		}
	}
	l := []byte{0, 1, 2, 3, 8, 10, 13, 16, 18, 26, 127, 128, 255}
	for i := range len(l) * len(l) * len(l) * len(l) {
		k := len(l)
		lookAgain(t, keyed(), 0, []byte{18, l[i%k], l[i/k%k], l[i/k/k%k], l[i/k/k/k]})
	}
}

// TestR1Big has as many parts as can be: each call ends soon.
func TestR1Big(t *testing.T) {
	const most = api.MaxMessage
	var falling, deep []byte
	for i := 13000; i >= 0; i-- {
		falling = append(falling, all(tag(10, 2), chunk(tag(1, 0), digits(uint64(i))))...)
	}
	for len(deep)+2*16 < most/2 {
		deep = inside(3, 1, deep)
	}
	begin := time.Now()
	for _, b := range [][]byte{
		bytes.Repeat([]byte{82, 0}, most/2), bytes.Repeat([]byte{66, 0}, most/2), bytes.Repeat([]byte{42, 0}, most/2), bytes.Repeat([]byte{98, 0, 106, 0}, most/4), bytes.Repeat([]byte{88, 0, 106, 0}, most/4),
		all(tag(6, 2), chunk(make([]byte, most-4))), bytes.Repeat([]byte{130, 6, 0}, most/3), bytes.Repeat(inside(12, 15, nil), most/30), bytes.Repeat([]byte{74, 2, 18, 0}, most/4), falling,
	} {
		if _, e := interp.Decode(wide(), 1, b); e != api.OK {
			t.Errorf("% d ..: error %d", b[:12], e)
		}
	}
	lookAtFault(t, em(), 1, deep, api.ErrTooDeep)
	lookAtRefused(t, em(), 1, samples.Nested(3, 1<<16-1, msg()), api.ErrTooDeep)
	lookAtRefused(t, em(), 1, samples.Nested(3, 1<<16-1, msg(field(9))), api.ErrType)
	lookAtRead(t, samples.Full(), 127, bytes.Repeat([]byte{128, 8, 1}, 20000), msg(field(128, num(1))))
	if spent := time.Since(begin); spent > 20*time.Second {
		t.Errorf("all that took %v", spent)
	}
}

func TestR4Arguments(t *testing.T) {
	m := samples.New(98)
	for range 1500 {
		x := m.Table()
		a, b := samples.WithRoom(m.Message(x, 0, 3)), samples.Spare(m.Bytes(x, 0, 3))
		if m.Below(4) == 0 {
			a = samples.WithRoom(m.Wild(2))
		}
		types, message, given := fmt.Sprintf("%+v", x), samples.Wholly(a), string(b[:cap(b)])
		ask(t, x, 0, b, a)
		if fmt.Sprintf("%+v", x) != types || samples.Wholly(a) != message || string(b[:cap(b)]) != given {
			t.Errorf("changed: %s, %q", message, given)
		}
	}
}

// TestR4AnswersAreNew sees that no two lists of an answer share memory, and none with what was handed in.
func TestR4AnswersAreNew(t *testing.T) {
	m := samples.New(99)
	for range 1500 {
		x := m.Table()
		if m.Below(2) == 0 {
			x = wide()
		}
		index := slices.IndexFunc(x.Types, func(x api.Type) bool { return !x.Enum })
		b := samples.Spare(m.Bytes(x, index, 4))
		before := string(b)
		if got, e := interp.Decode(x, index, b); e == api.OK {
			if samples.Shares(got, unknown(api.Entry{B: b})) {
				t.Errorf("Decode(% d): %s shares memory", b, told(got))
			}
			was := told(got)
			clear(b[:cap(b)])
			if told(got) != was {
				t.Errorf("Decode(%q): what was told is %s now", before, told(got))
			}
		}
		a := samples.WithRoom(m.Message(x, index, 3))
		if got, e := interp.Encode(x, index, a); e == api.OK && samples.Shares(unknown(api.Entry{B: got}), a) {
			t.Errorf("Encode(%s) shares memory", told(a))
		}
	}
}

// TestR4EmptyLists sees that nil and an empty list are one.
func TestR4EmptyLists(t *testing.T) {
	m := samples.New(100)
	for range 2000 {
		x := m.Table()
		a := m.Message(x, 0, 3)
		if m.Below(3) == 0 {
			a = m.Changed(a)
		}
		if one, two := ask(t, x, 0, nil, a), ask(t, x, 0, []byte{}, samples.Emptied(a)); one != two {
			t.Errorf("%s with empty lists: %s, want %s", told(a), two, one)
		}
	}
}

// TestR5Many asks from many goroutines at a time, of one table, the same bytes and messages.
func TestR5Many(t *testing.T) {
	m := samples.New(101)
	x := wide()
	var given []api.Msg
	var bytesGiven [][]byte
	var want []string
	for range 40 {
		a, b := m.Message(x, 1, 3), m.Bytes(x, 1, 4)
		given, bytesGiven = append(given, a), append(bytesGiven, b)
		want = append(want, ask(t, x, 1, b, a))
	}
	var group sync.WaitGroup
	for worker := range 8 {
		group.Go(func() {
			for step := range 150 {
				i := (7*worker + step) % len(given)
				if got := ask(t, x, 1, bytesGiven[i], given[i]); got != want[i] {
					t.Errorf("bytes %d: %s, want %s", i, got, want[i])
				}
			}
		})
	}
	group.Wait()
}

// TestR6First sees that the table and the index are asked ahead of all else: bytes that are too many and faulty, messages that are not typed, too deep, too big.
func TestR6First(t *testing.T) {
	x := em()
	x.Types[1].Name = ""
	refused(t, "a table that is not good", x, 1)
	refused(t, "an enum's index", em(), 0)
	lookAtFault(t, em(), 1, bytes.Repeat([]byte{11}, api.MaxMessage+1), api.ErrTooBig)
	lookAtFault(t, em(), 1, bytes.Repeat([]byte{11}, api.MaxMessage), api.ErrKind)
}
