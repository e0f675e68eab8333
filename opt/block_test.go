package opt_test

import (
	"testing"

	"cartouche/api"
	"cartouche/opt"
	"cartouche/plan"
	"cartouche/samples"
)

// TestP14_5Examples has the chapter's.
func TestP14_5Examples(t *testing.T) {
	best := block("Tag; Jump 10; ReadSet Int32 1; Go 0; ReadAdd Uint32 2; Go 0; Row 2 Uint32 0; Go 0; Msg 3 1 0; Go 0; Keep; Go 0",
		"Has 1 2 Int32; PutVal 8 Int32; Has 2 4 0; Run 18 Uint32; Has 3 7 0; Put 26; Sub 1; Rest; End", "8 2; 16 4; 18 6; 26 8")
	p := lowered(t, em())
	look(t, "Block(M)", opt.Block(p.Blocks[1]), best)
	look(t, "Block(E)", opt.Block(p.Blocks[0]), block("", "", "0 0"))
	q := better(t, p)
	if len(q.Blocks) != 2 {
		t.Fatalf("%d blocks", len(q.Blocks))
	}
	look(t, "Program, M", q.Blocks[1], best)
	look(t, "Program, E", q.Blocks[0], block("", "", "0 0"))
	if one, two := opt.Count(p), opt.Count(q); one != 28 || two != 26 {
		t.Errorf("Count is %d, %d", one, two)
	}
}

// TestP14_5Wide has each label.
func TestP14_5Wide(t *testing.T) {
	got := better(t, lowered(t, wide())).Blocks[1]
	look(t, "W", got, block(
		`Tag; Jump 48; ReadSet Sint64 1; Go 0; ReadSet String 2; Go 0; Read Enum; Sym 0; Set 3; Go 0; ReadSet Bool 4; Go 0; Msg 5 2 0; Go 0; ReadAdd Fixed32 6; Go 0; Row 6 Fixed32 0; Go 0; ReadAdd Double 7; Go 0; Row 7 Double 0; Go 0;
		Msg 8 1 1; Go 0; Pair 9 String Message 2; Go 0; Pair 10 Int32 Enum 0; Go 0; Read Int32; Clear 11; Clear 13; Set 11; Go 0; Clear 12; Clear 14; Msg 12 1 2; Go 0; Clear 11; Clear 13; Msg 13 2 2; Go 0;
		Read Bytes; Clear 12; Clear 14; Set 14; Go 0; ReadSet Bytes 536870911; Go 0; Keep; Go 0`,
		`Has 1 2 Sint64; PutVal 8 Sint64; Has 2 4 String; PutVal 18 String; Has 3 6 Enum; PutVal 24 Enum; Has 4 8 0; PutVal 32 Bool; Has 5 11 0; Put 42; Sub 2; Has 6 13 0; Each 53 Fixed32 0; Has 7 15 0; Run 58 Double;
		Has 8 17 0; Each 66 Message 1; Has 9 19 0; Pairs 74 String Message 2; Has 10 21 0; Pairs 82 Int32 Enum 0; Has 11 23 0; PutVal 88 Int32; Has 12 26 0; Put 98; Sub 1; Has 13 29 0; Put 106; Sub 2; Has 14 31 0; PutVal 114 Bytes;
		Has 536870911 33 Bytes; PutVal 4294967290 Bytes; Rest; End`,
		"8 2; 18 4; 24 6; 32 10; 42 12; 50 16; 53 14; 57 18; 58 20; 66 22; 74 24; 82 26; 88 28; 98 33; 106 37; 114 41; 4294967290 46"))
}

// TestP14_5Order has blocks of which a pass finds something only where another one has been.
func TestP14_5Order(t *testing.T) {
	lookAtReading(t, "a Case that no Case goes to now", opt.Block, "Tag; Case 8 4; Keep; Go 0; Case 16 7; Clear 1; Go 0; Keep; Go 0", "", "Tag; Jump 6; Keep; Go 0; Clear 1; Go 0; Keep; Go 0", "8 2; 16 4")
	lookAtReading(t, "a Go that none goes to now", opt.Block, "Tag; Go 3; Keep; Go 5; Keep; Keep; Go 0", "", "Tag; Go 2; Keep; Go 0", "")
	lookAtReading(t, "a pair whose second step a Case names that is taken out behind that", opt.Block, "Tag; Go 4; Case 8 5; Keep; Read Bool; Set 1; Go 0", "", "Tag; Go 2; Read Bool; Set 1; Go 0", "")
	lookAtReading(t, "a pair whose second step the Case of step 1 names: the Jump does", opt.Block, "Tag; Case 8 3; Read Bool; Set 1; Go 0", "", "Tag; Jump 3; Read Bool; Set 1; Go 0", "8 2")
	lookAtReading(t, "rows of a Jump that is taken out", opt.Block, "Tag; Go 3; Jump 3; Go 4; Keep; Go 0", "8 3", "Tag; Go 2; Keep; Go 0", "")
	lookAtReading(t, "a Case, as rows stood there", opt.Block, "Tag; Case 8 4; Jump 4; Keep; Keep; Go 0", "8 3", "Tag; Case 8 4; Jump 4; Keep; Keep; Go 0", "8 3")
}

// TestP14_5Block is the passes one behind the other.
func TestP14_5Block(t *testing.T) {
	m := samples.New(1451)
	other := map[string]int{}
	for range 4000 {
		p := samples.Pick(m, m.Program(), m.Knotted(), m.Knotted(), lowered(t, m.Table()), every())
		for _, b := range p.Blocks {
			want := b
			for _, c := range calls()[:4] {
				next := c.pass(want)
				if !same(next, want) {
					other[c.name]++
				}
				want = next
			}
			look(t, "by chance", opt.Block(b), want)
		}
		q := better(t, p)
		for i, b := range p.Blocks {
			look(t, "of a program", q.Blocks[i], opt.Block(b))
		}
		if len(q.Blocks) != len(p.Blocks) {
			t.Errorf("%d blocks", len(q.Blocks))
		}
	}
	for _, c := range calls()[:4] {
		if other[c.name] < 500 {
			t.Errorf("%s changes %d blocks", c.name, other[c.name])
		}
	}
}

// TestP14_5Enum: each pass tells an enum's block as it is.
func TestP14_5Enum(t *testing.T) {
	for _, row := range []string{"0 0", "7 0", "0 0; 1 0; 2 0", "5 0; 8 0; 2147483647 0"} {
		for _, c := range calls() {
			lookAt(t, c.name+" of an enum", c.pass, block("", "", row), block("", "", row))
		}
		q := better(t, of(block("", "", row)))
		if len(q.Blocks) != 1 {
			t.Fatalf("%d blocks", len(q.Blocks))
		}
		look(t, "Program of an enum", q.Blocks[0], block("", "", row))
	}
}

// TestP14_5Wrong has programs that are not valid.
func TestP14_5Wrong(t *testing.T) {
	wrong := []plan.Program{of(plan.Block{}), of(block("Tag; Go 1", "End", "")), of(block("Tag; Go 0", "", "")), of(block("", "End", "")), of(block("Tag; Go 0", "End", "8 1")), {Blocks: make([]plan.Block, api.MaxTypes+1)}, of(block("", "", "0 1")), of(block("Tag; Keep", "End", "")), of(block("Tag; Msg 1 1 0; Go 0", "End", ""))}
	spoiled := every()
	spoiled.Blocks[3] = plan.Block{}
	many := plan.Program{}
	for range api.MaxTypes + 1 {
		many.Blocks = append(many.Blocks, block("", "", "0 0"))
	}
	for _, p := range append(wrong, spoiled, many) {
		if q, e := opt.Program(p); e != api.ErrProgram || len(q.Blocks) > 0 {
			t.Errorf("Program(%s): %s, error %d", brief(p), brief(q), e)
		}
	}
	many.Blocks = many.Blocks[1:]
	if q := better(t, many); len(q.Blocks) != api.MaxTypes {
		t.Errorf("%d blocks", len(q.Blocks))
	}
	if q, e := opt.Program(plan.Program{}); e != api.OK || len(q.Blocks) > 0 {
		t.Errorf("of no blocks: %d, error %d", len(q.Blocks), e)
	}
	m := samples.New(1452)
	refused := 0
	for range 4000 {
		p := m.BentProgram(samples.Pick(m, m.Program(), m.Knotted(), every()))
		q, e := opt.Program(p)
		if want := plan.Valid(p); want != (e == api.OK) || !want && (e != api.ErrProgram || len(q.Blocks) > 0) {
			t.Errorf("Program(%s): %s, error %d", brief(p), brief(q), e)
		}
		if e != api.OK {
			refused++
		}
	}
	if refused < 1000 {
		t.Errorf("%d are refused", refused)
	}
}

// TestP14_5Count counts steps and rows of any program.
func TestP14_5Count(t *testing.T) {
	for want, p := range map[int]plan.Program{
		0: {}, 3: of(block("Tag; Go 0", "End", "")), 1: of(block("", "", "0 0")), 6: of(block("Tag; Jump 2; Go 0", "End", "8 2; 9 2")),
		7: {Blocks: []plan.Block{block("", "", "0 0; 1 0"), block("Tag; Keep; Go 0", "Rest; End", "")}}, 26 + 17 + 5 + 3 + 3 + 1: every(), 4: {Blocks: []plan.Block{{}, block("Go 9", "Go 9; Tag", ""), {}, block("", "", "-5 -5")}},
	} {
		if got := opt.Count(p); got != want {
			t.Errorf("Count(%s) is %d, want %d", brief(p), got, want)
		}
	}
	if got := opt.Count(plan.Program{Blocks: make([]plan.Block, 1000)}); got != 0 {
		t.Errorf("Count of empty blocks is %d", got)
	}
}
