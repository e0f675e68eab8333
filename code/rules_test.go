package code_test

import (
	"bytes"
	"fmt"
	"math"
	"slices"
	"strings"
	"sync"
	"testing"
	"time"

	"cartouche/api"
	"cartouche/code"
	"cartouche/plan"
	"cartouche/samples"
)

// ask asks each call, and tells all answers; beside an error, which can be ErrProgram alone, each answer must be zero.
func ask(t *testing.T, p plan.Program, b []byte, s string) string {
	t.Helper()
	laid, e1 := code.Bytes(p)
	text, e2 := code.Text(p)
	sum, e3 := code.Sum(p)
	one, e4 := code.Read(b)
	two, e5 := code.Parse(s)
	for i, isZero := range []bool{len(laid) == 0, text == "", sum == 0, len(one.Blocks) == 0, len(two.Blocks) == 0} {
		if e := []api.Errno{e1, e2, e3, e4, e5}[i]; e != api.OK && (e != api.ErrProgram || !isZero) {
			t.Errorf("%s, %s, %s: answer %d with the error %d", brief(p), brief(b), brief(s), i, e)
		}
	}
	if (e1 == api.OK) != plan.Valid(p) || e2 != e1 || e3 != e1 {
		t.Errorf("%s: errors %d, %d, %d", brief(p), e1, e2, e3)
	}
	return fmt.Sprint(laid, text, sum, wholly(samples.CopyProgram(one)), wholly(samples.CopyProgram(two)), e1, e4, e5)
}

// anything tells any bytes.
func anything(m *samples.Maker) []byte {
	var b []byte
	for range m.Below(40) {
		b = append(b, byte(samples.Pick(m, m.Below(256), m.Below(26), m.Below(4), 128, 255)))
	}
	if m.Below(4) > 0 {
		return append([]byte{67, 84, byte(m.Below(3))}, b...)
	}
	return b
}

// words tells any lines.
func words(m *samples.Maker) string {
	var out strings.Builder
	for range m.Below(40) {
		out.WriteString(samples.Pick(m, "block", "  dec", "  enc", "  row", " ", " ", " ", " ", "\n", "\n", "0", "1", "2", "tag", "go", "keep", "end", "has", "pair", "9223372036854775807", "9223372036854775808", "-1", "\xff", "\u00a0"))
	}
	return out.String()
}

// given tells any arguments.
func given(t *testing.T, m *samples.Maker) (plan.Program, []byte, string) {
	t.Helper()
	p := samples.Pick(m, some(t, m), m.WildProgram(), m.BentProgram(some(t, m)))
	q := some(t, m)
	b, s := joined(pieces(q)), lines(linesAgain(q)...)
	return p, samples.Pick(m, b, m.Bent(b), anything(m)), samples.Pick(m, s, bentText(m, s), words(m))
}

// TestR1R2 has programs that are not valid, any bytes and any texts: no call panics, and each ends.
func TestR1R2(t *testing.T) {
	m := samples.New(1681)
	for range 10000 {
		p, b, s := given(t, m)
		ask(t, p, b, s)
		lookAtReadAgain(t, anything(m))
		lookAtParseAgain(t, words(m))
		ask(t, m.WildProgram(), []byte(words(m)), string(anything(m)))
	}
	ask(t, plan.Program{}, nil, "")
	for _, n := range []int{math.MinInt, -1, 0, 1, 2, math.MaxInt} {
		for op := -1; op < plan.PutVal+3; op++ {
			for _, s := range []plan.Ins{{Op: op, A: n, B: n, C: n, D: n}, {Op: op, A: n}, {Op: n, A: op}} {
				for _, b := range []plan.Block{{Dec: []plan.Ins{s}}, {Enc: []plan.Ins{s}}, {Dec: []plan.Ins{{Op: plan.Tag}, s, {Op: plan.Go}}, Enc: []plan.Ins{s, {Op: plan.End}}}, {Rows: []plan.Line{{Tag: n, To: op}}}} {
					ask(t, of(b), nil, "")
				}
			}
		}
	}
}

// TestR1Short has all bytes behind the mark that are short enough, of some.
func TestR1Short(t *testing.T) {
	good := 0
	var look func(b []byte, more int)
	look = func(b []byte, more int) {
		if lookAtReadAgain(t, b) {
			good++
		}
		if more > 0 {
			for _, c := range []byte{0, 1, 2, 4, 13, 24, 128, 255} {
				look(append(slices.Clip(b), c), more-1)
			}
		}
	}
	look([]byte{67, 84}, 3)
	look([]byte{67, 84, 1}, 5)
	look([]byte{67, 84, 1, 2, 1, 0}, 5)
	if good < 8 {
		t.Errorf("%d are good", good)
	}
}

// lookAtBig sees that a program with very long lists goes there and back.
func lookAtBig(t *testing.T, what string, p plan.Program) {
	t.Helper()
	b, e1 := code.Bytes(p)
	s, e2 := code.Text(p)
	_, e3 := code.Sum(p)
	one, e4 := code.Read(b)
	two, e5 := code.Parse(s)
	if e1 != api.OK || e2 != api.OK || e3 != api.OK || e4 != api.OK || e5 != api.OK || !plan.Equal(one, p) || !plan.Equal(two, p) {
		t.Errorf("%s: errors %d, %d, %d, %d, %d", what, e1, e2, e3, e4, e5)
	}
	lookAtNoBytes(t, what, b[:len(b)-1])
	lookAtNoText(t, what, s[:len(s)-1])
}

// TestR1Big has very long lists, bytes and texts: each call ends soon.
func TestR1Big(t *testing.T) {
	const many = 1000000
	begin := time.Now()
	b := plan.Block{
		Dec: slices.Concat(steps("Tag"), slices.Repeat(steps("Keep"), many), steps("Jump 1000002; Go 0")),
		Enc: slices.Concat(slices.Repeat(steps("PutVal 4294967293 Enum"), many), steps("End")),
	}
	for i := range many {
		b.Rows = append(b.Rows, plan.Line{Tag: 8 * (i + 1), To: many + 2})
	}
	lookAtBig(t, "many steps and rows", of(b))
	lookAtNoProgram(t, "many blocks", of(make([]plan.Block, many)...))
	lookAtNoProgram(t, "many rows", of(plan.Block{Rows: make([]plan.Line, many)}))
	lookAtNoBytes(t, "many blocks of nothing", append([]byte{67, 84, 255, 255, 255, 255, 255, 255, 255, 255, 127}, make([]byte, many)...))
	lookAtNoBytes(t, "many steps", append([]byte{67, 84, 1, 255, 255, 255, 255, 255, 255, 255, 255, 127, 0, 0}, bytes.Repeat([]byte{13}, many)...))
	lookAtNoBytes(t, "a long varint", append([]byte{67, 84}, bytes.Repeat([]byte{128}, many)...))
	for _, s := range []string{"block 0\n", "block", "\n", " ", "0", "  dec 0 tag\n", "  row 0 0\n", " 0", "dec ", "\xff", "\u00a0"} {
		lookAtNoText(t, "many of one", strings.Repeat(s, many))
		lookAtNoText(t, "many of one in a block", "block 0\n"+strings.Repeat(s, many))
		lookAtNoText(t, "many of one in a row", "block 0\n  row 0 "+strings.Repeat(s, many))
		lookAtNoText(t, "many of one in a step", "block 0\n  dec 0 go "+strings.Repeat(s, many))
	}
	if spent := time.Since(begin); spent > 40*time.Second {
		t.Errorf("all that took %v", spent)
	}
}

// TestR3R4Arguments sees that nothing that is handed in is changed, spare room too, whether it is refused or not.
func TestR3R4Arguments(t *testing.T) {
	m := samples.New(1682)
	for range 3000 {
		p, b, s := given(t, m)
		p, b = samples.RoomyProgram(p), samples.Spare(b)
		program, whole := wholly(p), bytes.Clone(b[:cap(b)])
		first := ask(t, p, b, s)
		if wholly(p) != program || !bytes.Equal(b[:cap(b)], whole) {
			t.Errorf("changed: %s, %v", brief(program), whole)
		}
		if again := ask(t, p, b, s); again != first {
			t.Errorf("asked again: %s, want %s", brief(again), brief(first))
		}
	}
}

// TestR4AnswersAreNew spoils what was told and what was handed in: no other answer knows of it.
func TestR4AnswersAreNew(t *testing.T) {
	m := samples.New(1683)
	for range 2000 {
		p := some(t, m)
		program := wholly(p)
		b, s, _ := written(t, p)
		again, _ := code.Bytes(p)
		one, _ := code.Read(b)
		two, _ := code.Read(b)
		three, _ := code.Parse(s)
		four, _ := code.Parse(s)
		if samples.SharesProgram(one) || samples.SharesProgram(three) || samples.SharesProgram(two, one, p) || samples.SharesProgram(four, one, two, three, p) {
			t.Errorf("%s: lists share memory", brief(p))
		}
		clear(b[:cap(b)])
		samples.SpoilProgram(one)
		samples.SpoilProgram(three)
		if !same(two, p) || !same(four, p) || wholly(p) != program {
			t.Errorf("%s: spoiled", brief(p))
		}
		if last, e := code.Bytes(p); e != api.OK || !bytes.Equal(last, again) {
			t.Errorf("%s: bytes are spoiled", brief(p))
		}
		if last, e := code.Parse(s); e != api.OK || !same(last, p) {
			t.Errorf("%s: another answer", brief(p))
		}
	}
}

// TestR4EmptyLists sees that nil and an empty list are one.
func TestR4EmptyLists(t *testing.T) {
	m := samples.New(1684)
	for range 2000 {
		p := samples.Pick(m, some(t, m), m.WildProgram())
		if one, two := ask(t, p, nil, ""), ask(t, samples.EmptiedProgram(p), []byte{}, ""); one != two {
			t.Errorf("%s with empty lists: %s, want %s", brief(p), brief(two), brief(one))
		}
	}
}

// TestR5Many asks from many goroutines at a time.
func TestR5Many(t *testing.T) {
	m := samples.New(1685)
	type row struct {
		p    plan.Program
		b    []byte
		s    string
		want string
	}
	var all []row
	for range 40 {
		p, b, s := given(t, m)
		all = append(all, row{p, b, s, ask(t, p, b, s)})
	}
	var group sync.WaitGroup
	for worker := range 8 {
		group.Go(func() {
			for step := range 200 {
				if r := all[(7*worker+step)%len(all)]; ask(t, r.p, r.b, r.s) != r.want {
					t.Errorf("%s: another answer", brief(r.p))
				}
			}
		})
	}
	group.Wait()
}
