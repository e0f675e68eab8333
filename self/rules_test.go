package self_test

import (
	"bytes"
	"fmt"
	"slices"
	"strings"
	"sync"
	"testing"
	"time"

	"cartouche/api"
	"cartouche/samples"
	"cartouche/self"
)

// ask asks each call, and tells all answers; beside an error each answer must be zero.
func ask(t *testing.T, x api.Table, m api.Msg, b []byte) string {
	t.Helper()
	said, e1 := self.ToMsg(x)
	heard, e2 := self.FromMsg(m)
	written, e3 := self.Pack(x)
	read, e4 := self.Unpack(b)
	if e1 != api.OK && told(said) != "{}" || e2 != api.OK && len(heard.Types) > 0 || e3 != api.OK && len(written) > 0 || e4 != api.OK && len(read.Types) > 0 {
		t.Errorf("%s, %s, %s: more than an error is told", brief(x), shortly(m), brief(b))
	}
	if e1 != api.OK && e1 != api.ErrArg || e2 != api.OK && e2 != api.ErrArg && e2 != api.ErrType || e3 != e1 && (e1 != api.OK || e3 != api.ErrTooBig) || e4 == api.ErrType {
		t.Errorf("%s, %s, %s: errors %d, %d, %d, %d", brief(x), shortly(m), brief(b), e1, e2, e3, e4)
	}
	return fmt.Sprint(told(said), e1, plainly(heard), e2, written, e3, plainly(read), e4)
}

// plainly tells a table; nil and empty lists are told as one.
func plainly(x api.Table) string { return fmt.Sprintf("%q", fmt.Sprint(x)) }

// TestR1R2 has tables that are not good, messages that are not typed, and any bytes: none panics.
func TestR1R2(t *testing.T) {
	m := samples.New(129)
	for range 6000 {
		x := samples.Pick(m, m.WildTable(), m.BentTable(), m.Rich())
		a := samples.Pick(m, m.Wild(3), m.Changed(m.Message(meta(), 0, 3)), m.Message(samples.Wide(), 1, 2))
		b := m.Bytes(meta(), 0, 3)
		for range m.Below(4) {
			b = m.Bent(b)
		}
		if m.Below(4) == 0 {
			b = nil
			for range m.Below(30) {
				b = append(b, byte(m.Below(256)))
			}
		}
		ask(t, x, a, b)
	}
	ask(t, api.Table{}, api.Msg{}, nil)
}

// TestR1Short has all byte strings that are short enough.
func TestR1Short(t *testing.T) {
	for one := range 256 {
		lookAtReadAgain(t, []byte{byte(one)})
		for two := range 256 {
			lookAtReadAgain(t, []byte{byte(one), byte(two)})
		}
	}
	l := []byte{0, 1, 2, 3, 8, 10, 16, 26, 34, 42, 50, 65, 128}
	for i := range len(l) * len(l) * len(l) {
		k := len(l)
		lookAtReadAgain(t, []byte{10, 3, l[i%k], l[i/k%k], l[i/k/k%k]})
		lookAtReadAgain(t, []byte{10, 6, 10, 1, 65, l[i%k], l[i/k%k], l[i/k/k%k]})
		lookAtReadAgain(t, []byte{10, 8, 10, 1, 65, 42, 3, l[i%k], l[i/k%k], l[i/k/k%k]})
	}
}

// TestR1Big has as many parts as can be: each call ends soon.
func TestR1Big(t *testing.T) {
	const many = 200000
	begin := time.Now()
	one := in(msg(field(1, str("f")), field(2, num(1)), field(3, num(1))))
	for _, m := range []api.Msg{
		msg(field(1, slices.Repeat([]api.Val{in(msg(field(1, str("M"))))}, many)...)),
		around(field(1, str("M")), field(3, slices.Repeat([]api.Val{one}, many)...)),
		around(field(1, str("M")), field(4, slices.Repeat([]api.Val{str("o")}, many)...)),
		around(field(1, str("E")), field(2, num(1)), field(5, slices.Repeat([]api.Val{in(msg(field(1, str("A"))))}, many)...)),
		around(field(1, str("M")), field(6, slices.Repeat([]api.Val{in(msg(field(1, num(1)), field(2, num(1))))}, many)...)),
		around(field(1, str(strings.Repeat("A.", many)))),
	} {
		lookAtUnheard(t, m, api.ErrArg)
	}
	lookAtUnheard(t, samples.Nested(1, 1<<16-1, msg()), api.ErrType)
	lookAtHeard(t, api.Msg{Unknown: slices.Repeat([]api.Entry{chunk(1, "a")}, many)}, api.Table{})
	long := named(1 << 24)
	m, e := self.ToMsg(long)
	if e != api.OK {
		t.Errorf("error %d", e)
	}
	lookAtHeard(t, m, long)
	for _, x := range []api.Table{long, samples.Full()} {
		if b, e := self.Pack(x); e != api.ErrTooBig || len(b) > 0 {
			t.Errorf("%d bytes, error %d", len(b), e)
		}
	}
	for _, b := range [][]byte{{10, 0}, {10, 2, 26, 0}, {10, 2, 34, 0}, {10, 4, 42, 2, 16, 0}, {10, 2, 50, 0}} {
		lookAtFault(t, bytes.Repeat(b, api.MaxMessage/len(b)), api.ErrArg)
	}
	lookAtRead(t, bytes.Repeat([]byte{16, 0}, api.MaxMessage/2), api.Table{})
	if spent := time.Since(begin); spent > 20*time.Second {
		t.Errorf("all that took %v", spent)
	}
}

// TestR3R4Arguments sees that nothing that is handed in is changed, spare room too, whether it is refused or not.
func TestR3R4Arguments(t *testing.T) {
	m := samples.New(130)
	for range 2000 {
		x := samples.RoomyTable(samples.Pick(m, m.Rich(), m.BentTable()))
		a := samples.WithRoom(saidNormal(t, m.Rich()))
		if m.Below(3) == 0 {
			a = samples.WithRoom(m.Changed(a))
		}
		b := packed(m.Rich())
		samples.Roomy(&b, 10)
		types, message, given := samples.WhollyTable(x), samples.Wholly(a), string(b[:cap(b)])
		first := ask(t, x, a, b)
		if samples.WhollyTable(x) != types || samples.Wholly(a) != message || string(b[:cap(b)]) != given {
			t.Errorf("changed: %s, %s, %q", types, message, given)
		}
		if again := ask(t, x, a, b); again != first {
			t.Errorf("asked again: %s, want %s", again, first)
		}
	}
}

// TestR4AnswersAreNew spoils what was handed in, and what was told: no answer knows of it.
func TestR4AnswersAreNew(t *testing.T) {
	m := samples.New(131)
	for range 1000 {
		x := m.Rich()
		before := plainly(x)
		a, _ := self.ToMsg(x)
		if samples.Shares(a) {
			t.Errorf("ToMsg(%s): two lists share memory", before)
		}
		y, _ := self.FromMsg(a)
		b, _ := self.Pack(x)
		z, _ := self.Unpack(b)
		if samples.SharesTable(y, x) || samples.SharesTable(z, x, y) || plainly(y) != before || plainly(z) != before {
			t.Errorf("%s: lists share memory", before)
		}
		clear(b[:cap(b)])
		samples.Touch{Bytes: func(l *[]byte) { clear((*l)[:cap(*l)]) }, Bits: func(n *uint64) { *n = 7 }}.Message(&a)
		for _, w := range []api.Table{x, y, z} {
			if plainly(w) != before {
				t.Errorf("%s is %s now", before, plainly(w))
			}
		}
		again, e := self.Pack(x)
		if e != api.OK || !bytes.Equal(again, packed(z)) {
			t.Errorf("%s: %s, error %d", before, brief(again), e)
		}
	}
}

// TestR4EmptyLists sees that nil and an empty list are one.
func TestR4EmptyLists(t *testing.T) {
	m := samples.New(132)
	for range 2000 {
		x, a := m.BentTable(), saidNormal(t, m.Rich())
		if m.Below(3) == 0 {
			a = m.Changed(a)
		}
		if one, two := ask(t, x, a, nil), ask(t, samples.EmptiedTable(x), samples.Emptied(a), []byte{}); one != two {
			t.Errorf("%s, %s with empty lists: %s, want %s", brief(x), shortly(a), brief(two), brief(one))
		}
	}
}

// TestR5Many asks from many goroutines at a time.
func TestR5Many(t *testing.T) {
	m := samples.New(133)
	type row struct {
		x api.Table
		a api.Msg
		b []byte
	}
	var rows []row
	var want []string
	for range 40 {
		r := row{m.BentTable(), m.Changed(saidNormal(t, m.Rich())), m.Bent(packed(m.Rich()))}
		rows, want = append(rows, r), append(want, ask(t, r.x, r.a, r.b))
	}
	var group sync.WaitGroup
	for worker := range 8 {
		group.Go(func() {
			for step := range 200 {
				i := (7*worker + step) % len(rows)
				if got := ask(t, rows[i].x, rows[i].a, rows[i].b); got != want[i] {
					t.Errorf("row %d: %s, want %s", i, got, want[i])
				}
			}
		})
	}
	group.Wait()
}
