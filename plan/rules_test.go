package plan_test

import (
	"fmt"
	"math"
	"slices"
	"sync"
	"testing"
	"time"

	"cartouche/api"
	"cartouche/plan"
	"cartouche/samples"
	"cartouche/table"
)

// ask asks each call, and tells all answers; beside an error each answer must be zero.
func ask(t *testing.T, x api.Table, index int, p, q plan.Program) string {
	t.Helper()
	whole, e1 := plan.Lower(x)
	one, e2 := plan.LowerType(x, index)
	if e1 != api.OK && len(whole.Blocks) > 0 || e2 != api.OK && len(one.Dec)+len(one.Enc)+len(one.Rows) > 0 {
		t.Errorf("%s, %d: more than an error is told", brief(x), index)
	}
	good := table.Good(x)
	if isType := index >= 0 && index < len(x.Types); (e1 == api.OK) != good || (e2 == api.OK) != (good && isType) {
		t.Errorf("%s, %d: errors %d, %d", brief(x), index, e1, e2)
	}
	if e1 != api.OK && e1 != api.ErrArg || e2 != api.OK && e2 != api.ErrArg {
		t.Errorf("%s, %d: errors %d, %d", brief(x), index, e1, e2)
	}
	return fmt.Sprint(wholly(copied(whole)), e1, told(one), e2, plan.Valid(p), plan.Valid(q), plan.Equal(p, q), plan.Equal(q, p))
}

// TestR1R2 has tables that are not good, any index, and programs that are not valid: none panics.
func TestR1R2(t *testing.T) {
	m := samples.New(1351)
	for range 5000 {
		x := samples.Pick(m, m.WildTable(), m.BentTable(), m.Rich())
		index := samples.Pick(m, m.Below(len(x.Types)+2)-1, m.Near(0))
		p := samples.Pick(m, m.WildProgram(), m.Program())
		ask(t, x, index, p, samples.Pick(m, m.WildProgram(), m.BentProgram(p)))
	}
	ask(t, api.Table{}, 0, plan.Program{}, plan.Program{})
	for _, n := range []int{math.MinInt, math.MaxInt} {
		for op := range plan.PutVal + 2 {
			s := plan.Ins{Op: op, A: n, B: n, C: n, D: n}
			for _, b := range []plan.Block{{Dec: []plan.Ins{s}}, {Enc: []plan.Ins{s}}, {Dec: []plan.Ins{{Op: plan.Tag}, s, {Op: plan.Go}}, Enc: []plan.Ins{{Op: plan.End}}}, {Dec: steps("Tag; Go 0"), Enc: []plan.Ins{s, {Op: plan.End}}, Rows: []plan.Line{{Tag: n, To: n}}}} {
				lookAtValid(t, "numbers far off", plan.Program{Blocks: []plan.Block{b}}, false)
			}
		}
	}
}

// TestR1Big has very long lists: each call ends soon.
func TestR1Big(t *testing.T) {
	const many = 2000000
	begin := time.Now()
	long := least("Tag; Go 0", "End", "")
	long.Blocks[0].Dec = slices.Concat(steps("Tag"), slices.Repeat(steps("Jump 2000001"), many), steps("Go 0"))
	lookAtValid(t, "Jumps without rows", long, false)
	for i := range many {
		long.Blocks[0].Rows = append(long.Blocks[0].Rows, plan.Line{Tag: 8 * (i + 1), To: many + 1})
	}
	lookAtValid(t, "many Jumps and rows", long, true)
	lookAtEqual(t, "many Jumps and rows", long, copied(long), true)
	long.Blocks[0].Rows[many-1].To--
	lookAtValid(t, "a row to the last Jump", long, false)
	long.Blocks[0].Dec, long.Blocks[0].Rows = slices.Concat(steps("Tag"), slices.Repeat(steps("Keep"), many), steps("Go 0")), nil
	long.Blocks[0].Enc = slices.Concat(slices.Repeat(steps("Has 1 2000000 0"), many), steps("End"))
	lookAtValid(t, "many steps", long, true)
	lookAtValid(t, "many blocks", plan.Program{Blocks: make([]plan.Block, many)}, false)
	lookAtValid(t, "many rows", plan.Program{Blocks: []plan.Block{{Rows: make([]plan.Line, many)}}}, false)
	lookAtEqual(t, "many blocks", plan.Program{Blocks: make([]plan.Block, many)}, plan.Program{Blocks: make([]plan.Block, many)}, true)
	lookAtNoProgram(t, "many types", api.Table{Types: make([]api.Type, many)})
	lookAtNoType(t, "many fields", tableOf(messageOf("M", make([]api.FieldType, many)...)), 0)
	p := lowered(t, allMembers())
	if count := len(p.Blocks[0].Dec); count != api.MaxFields*(api.MaxFields+4)+3 {
		t.Errorf("%d steps", count)
	}
	if spent := time.Since(begin); spent > 20*time.Second {
		t.Errorf("all that took %v", spent)
	}
}

// TestR3R4Arguments sees that nothing that is handed in is changed, spare room too, whether it is refused or not.
func TestR3R4Arguments(t *testing.T) {
	m := samples.New(1352)
	for range 1500 {
		x := samples.RoomyTable(samples.Pick(m, m.Rich(), m.BentTable()))
		p := samples.RoomyProgram(samples.Pick(m, m.Program(), lowered(t, m.Table()), m.WildProgram()))
		q := samples.RoomyProgram(m.BentProgram(p))
		index := m.Below(len(x.Types))
		types, one, two := samples.WhollyTable(x), wholly(p), wholly(q)
		first := ask(t, x, index, p, q)
		if samples.WhollyTable(x) != types || wholly(p) != one || wholly(q) != two {
			t.Errorf("changed: %s, %s, %s", types, one, two)
		}
		if again := ask(t, x, index, p, q); again != first {
			t.Errorf("asked again: %s, want %s", brief(again), brief(first))
		}
	}
}

// TestR4AnswersAreNew spoils what was told: no other answer knows of it, nor does what was handed in.
func TestR4AnswersAreNew(t *testing.T) {
	m := samples.New(1353)
	for range 1000 {
		x := samples.Pick(m, m.Rich(), m.Table())
		types := samples.WhollyTable(x)
		p, q := lowered(t, x), lowered(t, x)
		before := wholly(copied(p))
		var alone plan.Program
		for i := range x.Types {
			b, _ := plan.LowerType(x, i)
			alone.Blocks = append(alone.Blocks, b)
		}
		if samples.SharesProgram(p) || samples.SharesProgram(q, p) || samples.SharesProgram(alone, p, q) {
			t.Errorf("%s: lists share memory", brief(x))
		}
		samples.SpoilProgram(p)
		clear(p.Blocks[:cap(p.Blocks)])
		if wholly(copied(q)) != before || wholly(copied(alone)) != before || samples.WhollyTable(x) != types {
			t.Errorf("%s: spoiled", brief(x))
		}
		samples.SpoilProgram(alone)
		if again := lowered(t, x); wholly(copied(again)) != before || !plan.Equal(again, q) {
			t.Errorf("%s: another answer", brief(x))
		}
	}
}

// TestR4EmptyLists sees that nil and an empty list are one.
func TestR4EmptyLists(t *testing.T) {
	m := samples.New(1354)
	for range 1500 {
		x := m.BentTable()
		p := samples.Pick(m, m.Program(), m.WildProgram())
		q := m.BentProgram(p)
		index := m.Below(len(x.Types))
		if one, two := ask(t, x, index, p, q), ask(t, samples.EmptiedTable(x), index, samples.EmptiedProgram(p), samples.EmptiedProgram(q)); one != two {
			t.Errorf("%s with empty lists: %s, want %s", brief(x), brief(two), brief(one))
		}
	}
}

// TestR5Many asks from many goroutines at a time.
func TestR5Many(t *testing.T) {
	m := samples.New(1355)
	type row struct {
		x     api.Table
		index int
		p, q  plan.Program
	}
	var rows []row
	var want []string
	for range 40 {
		p := m.Program()
		r := row{m.BentTable(), m.Below(3), p, m.BentProgram(p)}
		rows, want = append(rows, r), append(want, ask(t, r.x, r.index, r.p, r.q))
	}
	var group sync.WaitGroup
	for worker := range 8 {
		group.Go(func() {
			for step := range 200 {
				i := (7*worker + step) % len(rows)
				if r := rows[i]; ask(t, r.x, r.index, r.p, r.q) != want[i] {
					t.Errorf("row %d: another answer", i)
				}
			}
		})
	}
	group.Wait()
}
