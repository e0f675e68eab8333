package plan_test

import (
	"testing"

	"cartouche/api"
	"cartouche/plan"
	"cartouche/samples"
)

// lookAtWhole sees that Lower tells all that LowerType tells.
func lookAtWhole(t *testing.T, x api.Table) {
	t.Helper()
	p, e := plan.Lower(x)
	if e != api.OK || len(p.Blocks) != len(x.Types) {
		t.Fatalf("Lower(%s): %d blocks, error %d", brief(x), len(p.Blocks), e)
	}
	for i, b := range p.Blocks {
		lookAtType(t, "of the whole", x, i, b)
	}
}

func TestP13_2Lower(t *testing.T) {
	for _, x := range []api.Table{{}, {Types: []api.Type{}}, em(), wide(), refs(), full(), tableOf(messageOf("M"))} {
		lookAtWhole(t, x)
	}
	m := samples.New(132)
	for range 1500 {
		lookAtWhole(t, samples.Pick(m, m.Rich(), m.Table()))
	}
	p, e := plan.Lower(em())
	want := plan.Program{Blocks: []plan.Block{{Rows: rows("0 0")}, block(
		"Tag; Case 8 5; Read Int32; Set 1; Go 0; Case 16 9; Read Uint32; Add 2; Go 0; Case 18 12; Row 2 Uint32 0; Go 0; Case 26 15; Msg 3 1 0; Go 0; Keep; Go 0",
		"Has 1 3 Int32; Put 8; Val Int32; Has 2 5 0; Run 18 Uint32; Has 3 8 0; Put 26; Sub 1; Rest; End")}}
	if e != api.OK || !sameProgram(p, want) {
		t.Errorf("%s, error %d", brief(p), e)
	}
}

func TestP13_2Wrong(t *testing.T) {
	for _, w := range wrongTables() {
		lookAtNoProgram(t, w.What, w.Table)
	}
	lookAtNoProgram(t, "M alone, m's Ref 1", tableOf(em().Types[1]))
}

func lookAtEqual(t *testing.T, what string, a, b plan.Program, want bool) {
	t.Helper()
	if plan.Equal(a, b) != want || plan.Equal(b, a) != want {
		t.Errorf("%s: Equal is %v and %v, want %v", what, plan.Equal(a, b), plan.Equal(b, a), want)
	}
}

func TestP13_2Equal(t *testing.T) {
	m := samples.New(133)
	for range 500 {
		p := samples.Pick(m, lowered(t, m.Rich()), m.Program(), m.WildProgram())
		lookAtEqual(t, "it", p, p, true)
		lookAtEqual(t, "a copy", p, copied(p), true)
		lookAtEqual(t, "lists that are empty", p, samples.EmptiedProgram(p), true)
		lookAtEqual(t, "spare room", p, samples.RoomyProgram(p), true)
		bent := m.BentProgram(p)
		lookAtEqual(t, "one thing changed", p, bent, sameProgram(p, bent))
		other := samples.Pick(m, lowered(t, m.Rich()), m.Program(), m.WildProgram())
		lookAtEqual(t, "another one", p, other, sameProgram(p, other))
	}
}

// TestP13_2Empty has programs of nothing: nil and an empty list are one, a block of nothing is more.
func TestP13_2Empty(t *testing.T) {
	none := []plan.Program{{}, {Blocks: []plan.Block{}}, {Blocks: make([]plan.Block, 0, 5)}}
	one := []plan.Program{{Blocks: make([]plan.Block, 1)}, {Blocks: []plan.Block{{Dec: []plan.Ins{}, Enc: []plan.Ins{}, Rows: []plan.Line{}}}}, {Blocks: []plan.Block{{Enc: make([]plan.Ins, 0, 3)}}}}
	for _, a := range none {
		for _, b := range none {
			lookAtEqual(t, "none and none", a, b, true)
		}
		for _, b := range one {
			lookAtEqual(t, "none and one", a, b, false)
		}
	}
	for _, a := range one {
		for _, b := range one {
			lookAtEqual(t, "one and one", a, b, true)
		}
		lookAtEqual(t, "one and two", a, plan.Program{Blocks: make([]plan.Block, 2)}, false)
		lookAtEqual(t, "a step of nothing", a, plan.Program{Blocks: []plan.Block{{Dec: make([]plan.Ins, 1)}}}, false)
		lookAtEqual(t, "a row of nothing", a, plan.Program{Blocks: []plan.Block{{Rows: make([]plan.Line, 1)}}}, false)
	}
}

// TestP13_2Part has programs that part in one number, one step, one row or one block: each place is changed once.
func TestP13_2Part(t *testing.T) {
	p := rich()
	part := func(what string, change func(b []plan.Block)) {
		t.Helper()
		q := copied(p)
		change(q.Blocks)
		lookAtEqual(t, what, p, q, false)
		lookAtEqual(t, what, q, copied(q), true)
	}
	for i, b := range p.Blocks {
		for at := range b.Dec {
			eachNumber(func(number func(*plan.Ins) *int) {
				part("a number of Dec", func(b []plan.Block) { *number(&b[i].Dec[at])++ })
			})
			part("Dec without a step", func(b []plan.Block) { b[i].Dec = append(b[i].Dec[:at], b[i].Dec[at+1:]...) })
		}
		for at := range b.Enc {
			eachNumber(func(number func(*plan.Ins) *int) {
				part("a number of Enc", func(b []plan.Block) { *number(&b[i].Enc[at])-- })
			})
			part("Enc without a step", func(b []plan.Block) { b[i].Enc = append(b[i].Enc[:at], b[i].Enc[at+1:]...) })
		}
		for at := range b.Rows {
			part("a row's Tag", func(b []plan.Block) { b[i].Rows[at].Tag++ })
			part("a row's To", func(b []plan.Block) { b[i].Rows[at].To++ })
			part("without a row", func(b []plan.Block) { b[i].Rows = append(b[i].Rows[:at], b[i].Rows[at+1:]...) })
		}
		part("one step more in Dec", func(b []plan.Block) { b[i].Dec = append(b[i].Dec, plan.Ins{}) })
		part("one step more in Enc", func(b []plan.Block) { b[i].Enc = append(b[i].Enc, plan.Ins{}) })
		part("one row more", func(b []plan.Block) { b[i].Rows = append(b[i].Rows, plan.Line{}) })
		part("a block of nothing", func(b []plan.Block) { b[i] = plan.Block{} })
		part("Dec and Enc the other way round", func(b []plan.Block) {
			if b[i].Dec, b[i].Enc = b[i].Enc, b[i].Dec; len(b[i].Dec) == 0 {
				b[i].Rows = nil
			}
		})
		lookAtEqual(t, "blocks ahead", p, plan.Program{Blocks: p.Blocks[:i]}, false)
		lookAtEqual(t, "blocks behind", p, plan.Program{Blocks: p.Blocks[i+1:]}, false)
	}
	part("two blocks the other way round", func(b []plan.Block) { b[0], b[1] = b[1], b[0] })
	lookAtEqual(t, "a block more", p, plan.Program{Blocks: append(copied(p).Blocks, plan.Block{})}, false)
}
