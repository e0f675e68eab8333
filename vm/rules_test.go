package vm_test

import (
	"bytes"
	"fmt"
	"math"
	"slices"
	"strings"
	"sync"
	"testing"
	"time"

	"cartouche/api"
	"cartouche/plan"
	"cartouche/samples"
	"cartouche/vm"
)

// ask asks each call, and tells all answers; beside an error each answer must be zero.
func ask(t *testing.T, p plan.Program, index int, b []byte, m api.Msg) string {
	t.Helper()
	read, e1 := vm.Decode(p, index, b)
	written, e2 := vm.Encode(p, index, m)
	size, e3 := vm.Size(p, index, m)
	steps, e4 := vm.Steps(p, index, b)
	if e1 != api.OK && told(read) != "{}" || e2 != api.OK && len(written) > 0 || e3 != api.OK && size != 0 || e4 != api.OK && steps != 0 {
		t.Errorf("%s, %s, %s: more than an error is told", brief(p), short(b), shortly(m))
	}
	isRefused := func(e api.Errno) bool { return e == api.ErrProgram || e == api.ErrArg }
	if e1 != e4 || e2 != e3 && e2 != api.ErrTooBig || isRefused(e1) != isRefused(e2) || isRefused(e1) && e1 != e2 || e2 == api.OK && size != len(written) || e4 == api.OK && steps == 0 {
		t.Errorf("%s, %s, %s: errors %d, %d, %d, %d", brief(p), short(b), shortly(m), e1, e2, e3, e4)
	}
	return fmt.Sprint(told(read), e1, written, e2, size, e3, steps, e4)
}

// TestR1R2 has programs that are not valid, valid ones of no table, any index, any bytes, any messages: none panics, and each call ends.
func TestR1R2(t *testing.T) {
	m := samples.New(1581)
	for range 8000 {
		p := samples.Pick(m, m.Program, m.Knotted, mixing, m.WildProgram, func() plan.Program { return m.BentProgram(m.Program()) }, func() plan.Program { return m.BentProgram(lowered(t, m.Table())) })()
		var b []byte
		for range m.Below(40) {
			b = append(b, byte(m.Below(256)))
		}
		if plan.Valid(p) && len(p.Blocks) > 0 && len(p.Blocks[0].Dec) > 0 && m.Below(3) > 0 {
			b = m.Bent(chance{m, p.Blocks}.bytes(0, 2))
		}
		ask(t, p, samples.Pick(m, m.Below(len(p.Blocks)+2)-1, 0, 0, math.MinInt, math.MaxInt), b, samples.Pick(m, m.Wild(3), m.Changed(m.Message(wide(), 1, 2))))
	}
	for _, n := range []int{math.MinInt, -1, 0, 1, 2, 8, api.MaxNumber, math.MaxInt} {
		for op := range plan.PutVal + 2 {
			s := plan.Ins{Op: op, A: n, B: n, C: n, D: n}
			for _, b := range []plan.Block{{Dec: []plan.Ins{{Op: plan.Tag}, s, {Op: plan.Go}}, Enc: steps("End")}, {Dec: steps("Tag; Go 0"), Enc: []plan.Ins{s, {Op: plan.End}}}, {Dec: []plan.Ins{s}, Enc: []plan.Ins{s}}, {Rows: []plan.Line{{Tag: n, To: n}}}} {
				ask(t, plan.Program{Blocks: []plan.Block{b}}, 0, []byte{8, 1, 8, 1, 10, 0}, msg(field(1, num(1))))
			}
		}
	}
	ask(t, plan.Program{}, 0, nil, msg())
	ask(t, samples.EveryStep(), 1, []byte{8, 5, 18, 0}, msg(field(1, num(5))))
}

// TestR1Big has as many parts as can be: each call ends soon.
func TestR1Big(t *testing.T) {
	const most = api.MaxMessage
	var falling, rising, mixed []byte
	pair := func(key uint64) []byte { return all([]byte{8}, chunk([]byte{8}, digits(key))) }
	for i := range uint64(13000) {
		falling, rising = append(falling, pair(12999-i)...), append(rising, pair(i)...)
		if i < 9000 {
			mixed = all(mixed, pair(i), []byte{16, 0})
		}
	}
	begin := time.Now()
	for _, x := range []struct {
		between string
		b       []byte
	}{
		{"Pair 1 Int32 Bool 0", falling}, {"Pair 1 Int32 Bool 0", rising}, {"Pair 1 Int32 Message 2", rising}, {"Pair 1 Bool Message 0", bytes.Repeat([]byte{8, 0}, most/2)}, {"Case 8 4; Pair 1 Int32 Bool 0; Go 0; Pair 1 Bool Bool 0", mixed},
		{"Msg 1 0 1", bytes.Repeat([]byte{8, 0}, most/2)}, {"Msg 1 0 0", bytes.Repeat(inside(1, 15, nil), most/30)}, {"Row 1 Bool 0", all([]byte{8}, chunk(make([]byte, most-4)))}, {"Row 1 Bool 0", bytes.Repeat([]byte{8, 0}, most/2)}, {"Keep", bytes.Repeat([]byte{8, 0}, most/2)}, {"Set 1; Add 1", bytes.Repeat([]byte{8}, most)},
		{"Case 8 4; Read Bytes; Go 0; Set 1" + strings.Repeat("; Set 2", 1000), all([]byte{8}, chunk(make([]byte, 60000)), bytes.Repeat([]byte{16}, 2000))}, {"Go 2" + strings.Repeat("; Go 0", 100000), bytes.Repeat([]byte{8}, most)}, {"Read Bytes" + strings.Repeat("; Add 1", 1000), all([]byte{8}, chunk(make([]byte, 60000)))},
	} {
		p := reading(t, x.between)
		if _, e := vm.Decode(p, tried, x.b); e != api.OK {
			t.Errorf("%s, %s ..: error %d", x.between[:min(len(x.between), 60)], short(x.b[:12]), e)
		}
	}
	var sets []plan.Ins
	for number := 20000; number > 0; number-- { // fields that come in falling order
		sets = append(sets, plan.Ins{Op: plan.Set, A: number})
	}
	p := valid(t, around(plan.Block{Dec: slices.Concat(steps("Tag"), sets, steps("Go 0")), Enc: steps("End")}))
	if m, e := vm.Decode(p, tried, []byte{8, 8, 8}); e != api.OK || len(m.Fields) != 20000 {
		t.Errorf("%d fields, error %d", len(m.Fields), e)
	}
	if spent := time.Since(begin); spent > 60*time.Second {
		t.Errorf("all that took %v", spent)
	}
}

// TestR1BigWriting has messages as great and as deep as can be, and bytes that are far too many: they are not all kept.
func TestR1BigWriting(t *testing.T) {
	begin := time.Now()
	lookAtRefused(t, writing(t, "Rest"), tried, samples.Nested(3, 1<<16-1, msg()), api.ErrTooDeep)
	child := in(unknown(text(1, string(make([]byte, 1<<23)))))
	many := msg(field(1, slices.Repeat([]api.Val{child}, 300)...)) // more than 2^31 bytes
	lookAtNoSize(t, writing(t, "Has 1 1 0; Each 10 Message 2"), tried, many, api.ErrTooBig)
	many.Fields[0].Vals = append(many.Fields[0].Vals, num(1))
	lookAtNoSize(t, writing(t, "Has 1 1 0; Each 10 Message 2"), tried, many, api.ErrType)
	lookAtRefused(t, writing(t, "Has 1 1 0"+strings.Repeat("; Each 10 Bytes 0", 100000)), tried, msg(field(1, str("a"), num(1))), api.ErrRange)
	lookAtSize(t, writing(t, "Has 1 1 0"+strings.Repeat("; Each 10 Bytes 0", 100000)), tried, msg(field(1, str("a"))), 300000)
	lookAtNoSize(t, writing(t, "Has 1 1 0"+strings.Repeat("; Run 10 Bool", 100000)), tried, msg(field(1, make([]api.Val, 100000)...)), api.ErrTooBig)
	if spent := time.Since(begin); spent > 60*time.Second {
		t.Errorf("all that took %v", spent)
	}
}

// given is a program with bytes and a message for its block 0, each with spare room.
func given(t *testing.T, m *samples.Maker) (plan.Program, []byte, api.Msg) {
	t.Helper()
	p := samples.RoomyProgram(samples.Pick(m, m.Program, m.Knotted, mixing, texts, func() plan.Program { return lowered(t, m.Table()) })())
	c := chance{m, p.Blocks}
	b, a := c.bytes(0, 2), c.message(0, 2)
	if m.Below(4) == 0 {
		b, a = m.Bent(b), m.Wild(2)
	}
	return p, samples.Spare(b), samples.WithRoom(a)
}

// TestR3R4Arguments sees that nothing that is handed in is changed, spare room too, whether it is refused or not.
func TestR3R4Arguments(t *testing.T) {
	m := samples.New(1582)
	for range 2500 {
		p, b, a := given(t, m)
		if m.Below(5) == 0 {
			p = samples.RoomyProgram(m.BentProgram(p))
		}
		program, message, bytes := samples.WhollyProgram(p), samples.Wholly(a), string(b[:cap(b)])
		first := ask(t, p, 0, b, a)
		if samples.WhollyProgram(p) != program || samples.Wholly(a) != message || string(b[:cap(b)]) != bytes {
			t.Errorf("changed: %s, %s, %q", brief(program), message, bytes)
		}
		if again := ask(t, p, 0, b, a); again != first {
			t.Errorf("asked again: %s, want %s", brief(again), brief(first))
		}
	}
}

// TestR4AnswersAreNew sees that no two lists of an answer share memory, and none with what was handed in: also where one value is put in many times.
func TestR4AnswersAreNew(t *testing.T) {
	m := samples.New(1583)
	for range 2500 {
		p, b, a := given(t, m)
		if got, e := vm.Decode(p, 0, b); e == api.OK {
			lookAtNew(t, p, got, b)
		}
		if got, e := vm.Encode(p, 0, a); e == api.OK && samples.Shares(unknown(api.Entry{B: got}), a) {
			t.Errorf("Encode(%s) shares memory", shortly(a))
		}
	}
	for _, x := range []struct {
		between string
		b       []byte
	}{
		{"Read Bytes; Add 1; Add 1; Set 2; Add 3; Keep; Msg 4 2 1; Pair 5 Bool Message 2", []byte{10, 3, 97, 98, 99, 1, 97, 2, 8, 1, 4, 18, 2, 8, 1}},
		{"ReadAdd Bytes 1; Add 1; ReadSet String 2; Set 3; Row 6 Bool 0; Pair 4 String Bytes 0; Pair 4 String Bytes 0", []byte{8, 3, 97, 98, 99, 1, 97, 2, 1, 1, 6, 10, 1, 97, 18, 1, 98, 6, 10, 1, 97, 18, 1, 99}},
	} {
		p, b := reading(t, x.between), samples.Spare(x.b)
		got, e := vm.Decode(p, tried, b)
		if e != api.OK {
			t.Errorf("%s: error %d", x.between, e)
		}
		lookAtNew(t, p, got, b)
	}
}

func lookAtNew(t *testing.T, p plan.Program, got api.Msg, b []byte) {
	t.Helper()
	if samples.Shares(got, unknown(api.Entry{B: b})) {
		t.Errorf("%s\nDecode(%s): %s shares memory", dec(p, 0), short(b), shortly(got))
	}
}

// TestR4Kept sees that what was told stays, when what was handed in is written over.
func TestR4Kept(t *testing.T) {
	m := samples.New(1584)
	for range 1000 {
		p, b, a := given(t, m)
		got, _ := vm.Decode(p, 0, b)
		out, _ := vm.Encode(p, 0, a)
		message, written := told(got), string(out)
		clear(b[:cap(b)])
		samples.Touch{Bytes: func(l *[]byte) { clear((*l)[:cap(*l)]) }}.Message(&a)
		samples.SpoilProgram(p)
		if told(got) != message || string(out) != written {
			t.Errorf("what was told, %s and %q, is %s and %q now", message, written, told(got), out)
		}
	}
}

// TestR4EmptyLists sees that nil and an empty list are one.
func TestR4EmptyLists(t *testing.T) {
	m := samples.New(1585)
	for range 2000 {
		p, b, a := given(t, m)
		if one, two := ask(t, p, 0, b, a), ask(t, samples.EmptiedProgram(p), 0, b, samples.Emptied(a)); one != two {
			t.Errorf("%s with empty lists: %s, want %s", told(a), two, one)
		}
		if one, two := ask(t, p, 0, nil, a), ask(t, p, 0, []byte{}, a); one != two {
			t.Errorf("no bytes: %s, want %s", two, one)
		}
	}
}

// TestR5Many asks from many goroutines at a time, of one program, the same bytes and messages.
func TestR5Many(t *testing.T) {
	m := samples.New(1586)
	type question struct {
		p    plan.Program
		b    []byte
		a    api.Msg
		want string
	}
	var l []question
	for range 40 {
		p, b, a := given(t, m)
		l = append(l, question{p, b, a, ask(t, p, 0, b, a)})
	}
	var group sync.WaitGroup
	for worker := range 8 {
		group.Go(func() {
			for step := range 150 {
				q := l[(7*worker+step)%len(l)]
				if got := ask(t, q.p, 0, q.b, q.a); got != q.want {
					t.Errorf("%s, want %s", brief(got), brief(q.want))
				}
			}
		})
	}
	group.Wait()
}
