package opt_test

import (
	"fmt"
	"math"
	"slices"
	"strings"
	"sync"
	"testing"
	"time"

	"cartouche/api"
	"cartouche/opt"
	"cartouche/plan"
	"cartouche/samples"
)

// ask asks each call, and tells all answers; beside an error each answer must be zero.
func ask(t *testing.T, p plan.Program) string {
	t.Helper()
	var out strings.Builder
	for _, b := range p.Blocks {
		for _, c := range calls() {
			out.WriteString(told(c.pass(b)))
		}
	}
	q, e := opt.Program(p)
	if e != api.OK && (e != api.ErrProgram || len(q.Blocks) > 0) {
		t.Errorf("Program(%s): %d blocks, error %d", brief(p), len(q.Blocks), e)
	}
	fmt.Fprint(&out, wholly(samples.CopyProgram(q)), int(e), opt.Count(p))
	return out.String()
}

// tangled tells a block in which places may be any: of itself, back, past the end, far off.
func tangled(m *samples.Maker) plan.Block {
	place := func() int {
		return samples.Pick(m, m.Below(8), m.Below(8), m.Below(8), m.Below(8), m.Near(m.Below(8)))
	}
	list := func(ops ...int) []plan.Ins {
		var l []plan.Ins
		for range m.Below(9) {
			l = append(l, plan.Ins{Op: samples.Pick(m, ops...), A: place(), B: place()})
		}
		return l
	}
	b := plan.Block{Dec: list(plan.Case, plan.Case, plan.Go, plan.Go, plan.Jump, plan.Read, plan.Set, plan.Add, plan.Tag), Enc: list(plan.Has, plan.Has, plan.Put, plan.Val, plan.End, plan.Go, plan.Case)}
	if m.Below(2) == 0 {
		b.Dec = append([]plan.Ins{{Op: plan.Tag}, {Op: plan.Case, A: place(), B: place()}}, b.Dec...)
	}
	for range m.Below(4) {
		b.Rows = append(b.Rows, plan.Line{Tag: place(), To: place()})
	}
	return b
}

// TestR1R2 has programs that are not valid, and blocks of none: no call panics, and each ends.
func TestR1R2(t *testing.T) {
	m := samples.New(1481)
	for range 5000 {
		ask(t, samples.Pick(m, m.WildProgram(), of(tangled(m)), m.BentProgram(m.Knotted()), m.BentProgram(m.Program())))
	}
	ask(t, plan.Program{})
	for _, n := range []int{math.MinInt, -1, 0, 1, 2, 3, 4, math.MaxInt} {
		for op := range plan.PutVal + 2 {
			s := plan.Ins{Op: op, A: n, B: n, C: n, D: n}
			for _, b := range []plan.Block{
				{Dec: []plan.Ins{s}}, {Enc: []plan.Ins{s}}, {Dec: []plan.Ins{s, s}, Enc: []plan.Ins{s, s}}, {Dec: []plan.Ins{{Op: plan.Tag}, s}, Rows: []plan.Line{{Tag: n, To: n}}},
				{Dec: []plan.Ins{{Op: plan.Tag}, s, s, {Op: plan.Go, A: n}}, Enc: []plan.Ins{s, {Op: plan.End}}}, {Dec: []plan.Ins{{Op: plan.Tag}, {Op: plan.Case, A: n, B: n}, s, {Op: plan.Case, A: 1, B: n}}}, {Rows: []plan.Line{{Tag: n, To: n}, {Tag: n, To: n}}},
			} {
				ask(t, of(b))
			}
		}
	}
}

// TestR1Big has very long lists: each call ends soon.
func TestR1Big(t *testing.T) {
	const many = 200000
	begin := time.Now()
	list := func(step func(at int) plan.Ins) []plan.Ins {
		l := []plan.Ins{{Op: plan.Tag}}
		for at := 1; at <= many; at++ {
			l = append(l, step(at))
		}
		return append(l, plan.Ins{Op: plan.Go})
	}
	var jumps []plan.Line
	for i := range many {
		jumps = append(jumps, plan.Line{Tag: 8 * (i + 1), To: many + 1})
	}
	writing := func(step func(at int) plan.Ins) []plan.Ins {
		return append(list(step)[1:many+1], plan.Ins{Op: plan.End})
	}
	for what, b := range map[string]plan.Block{
		"Go's one behind the other":    {Dec: list(func(at int) plan.Ins { return plan.Ins{Op: plan.Go, A: at + 1} }), Enc: steps("End")},
		"Cases one behind the other":   {Dec: list(func(at int) plan.Ins { return plan.Ins{Op: plan.Case, A: 8 * (many - at + 1), B: at + 1} }), Enc: steps("End")},
		"one tag":                      {Dec: list(func(at int) plan.Ins { return plan.Ins{Op: plan.Case, A: 8, B: at + 1} }), Enc: steps("End")},
		"Jumps, each with rows":        {Dec: list(func(at int) plan.Ins { return plan.Ins{Op: plan.Jump, A: at + 1} }), Enc: steps("End"), Rows: jumps},
		"pairs":                        {Dec: list(func(at int) plan.Ins { return plan.Ins{Op: plan.Read + 2*(at%2), A: 2} }), Enc: writing(func(at int) plan.Ins { return plan.Ins{Op: plan.Put + at%2, A: 8} })},
		"Has to the end":               {Dec: steps("Tag; Go 0"), Enc: writing(func(at int) plan.Ins { return plan.Ins{Op: plan.Has, A: 1, B: many} })},
		"Has to the next":              {Dec: steps("Tag; Go 0"), Enc: writing(func(at int) plan.Ins { return plan.Ins{Op: plan.Has, A: 1, B: at} })},
		"a ring of Go's, not valid":    {Dec: list(func(at int) plan.Ins { return plan.Ins{Op: plan.Go, A: at%many + 1} }), Enc: steps("End")},
		"Go's back, not valid":         {Dec: list(func(at int) plan.Ins { return plan.Ins{Op: plan.Go, A: max(1, at-1)} }), Enc: steps("End")},
		"a ring of Cases, not valid":   {Dec: list(func(at int) plan.Ins { return plan.Ins{Op: plan.Case, A: at, B: at%many + 1} }), Enc: steps("End")},
		"rows of an enum, not valid":   {Rows: jumps},
		"steps that are not reached":   {Dec: slices.Concat(steps("Tag; Go 0"), list(func(at int) plan.Ins { return plan.Ins{Op: plan.Keep} })[1:]), Enc: steps("End")},
		"Cases far ahead, Go's behind": {Dec: list(func(at int) plan.Ins { return plan.Ins{Op: plan.Case + 2*(at%2), A: many + 1, B: many + 1} }), Enc: steps("End")},
	} {
		for _, c := range calls() {
			out := c.pass(b)
			if len(out.Dec) > len(b.Dec) || len(out.Enc) > len(b.Enc) {
				t.Errorf("%s: %s: %d and %d steps", what, c.name, len(out.Dec), len(out.Enc))
			}
		}
		if q, e := opt.Program(of(b)); (e == api.OK) != plan.Valid(of(b)) || e == api.OK && !plan.Valid(q) {
			t.Errorf("%s: error %d", what, e)
		}
	}
	if spent := time.Since(begin); spent > 40*time.Second {
		t.Errorf("all that took %v", spent)
	}
}

// someProgram tells a program of any sort.
func someProgram(t *testing.T, m *samples.Maker) plan.Program {
	t.Helper()
	return samples.Pick(m, m.Program, m.Knotted, m.WildProgram, func() plan.Program { return of(tangled(m)) }, func() plan.Program { return lowered(t, m.Table()) }, func() plan.Program { return m.BentProgram(m.Knotted()) })()
}

// TestR3R4Arguments sees that nothing that is handed in is changed, spare room too, whether it is refused or not.
func TestR3R4Arguments(t *testing.T) {
	m := samples.New(1482)
	for range 3000 {
		p := samples.RoomyProgram(someProgram(t, m))
		before := wholly(p)
		first := ask(t, p)
		if wholly(p) != before {
			t.Errorf("changed: %s", before)
		}
		if again := ask(t, p); again != first || wholly(p) != before {
			t.Errorf("asked again: %s, want %s", brief(again), brief(first))
		}
	}
}

// TestR4AnswersAreNew sees that no answer shares memory with what was handed in, or with itself, also where a block is told as it is.
func TestR4AnswersAreNew(t *testing.T) {
	m := samples.New(1483)
	asItIs := 0
	for range 3000 {
		p := samples.RoomyProgram(someProgram(t, m))
		before := wholly(p)
		for _, c := range calls() {
			for _, b := range p.Blocks {
				out, again := of(c.pass(b)), of(c.pass(b))
				if samples.SharesProgram(out, p) || samples.SharesProgram(out) || samples.SharesProgram(again, out) {
					t.Errorf("%s of %s shares memory", c.name, named(b))
				}
				if same(out.Blocks[0], b) {
					asItIs++
				}
				samples.SpoilProgram(out)
				if wholly(p) != before || !same(c.pass(b), again.Blocks[0]) {
					t.Errorf("%s of %s: spoiled", c.name, named(b))
				}
			}
		}
		q, _ := opt.Program(p)
		r, _ := opt.Program(p)
		if samples.SharesProgram(q, p) || samples.SharesProgram(q) || samples.SharesProgram(r, q) {
			t.Errorf("Program of %s shares memory", brief(p))
		}
		want := wholly(samples.CopyProgram(r))
		samples.SpoilProgram(q)
		if again, _ := opt.Program(p); wholly(p) != before || wholly(samples.CopyProgram(r)) != want || wholly(samples.CopyProgram(again)) != want {
			t.Errorf("Program of %s: spoiled", brief(p))
		}
	}
	if asItIs < 1000 {
		t.Errorf("%d are told as they are", asItIs)
	}
}

// TestR4EmptyLists sees that nil and an empty list are one.
func TestR4EmptyLists(t *testing.T) {
	m := samples.New(1484)
	for range 2000 {
		p := someProgram(t, m)
		if one, two := ask(t, p), ask(t, samples.EmptiedProgram(p)); one != two {
			t.Errorf("%s with empty lists: %s, want %s", brief(p), brief(two), brief(one))
		}
	}
	for _, c := range calls() {
		look(t, c.name+" of empty lists", c.pass(plan.Block{Dec: []plan.Ins{}, Enc: []plan.Ins{}, Rows: []plan.Line{}}), plan.Block{})
		look(t, c.name+" of nothing", c.pass(plan.Block{}), plan.Block{})
	}
}

// TestR5Many asks from many goroutines at a time.
func TestR5Many(t *testing.T) {
	m := samples.New(1485)
	var programs []plan.Program
	var want []string
	for range 40 {
		p := someProgram(t, m)
		programs, want = append(programs, p), append(want, ask(t, p))
	}
	var group sync.WaitGroup
	for worker := range 8 {
		group.Go(func() {
			for step := range 200 {
				if i := (7*worker + step) % len(programs); ask(t, programs[i]) != want[i] {
					t.Errorf("program %d: another answer", i)
				}
			}
		})
	}
	group.Wait()
}
