package opt_test

import (
	"fmt"
	"slices"
	"testing"

	"cartouche/api"
	"cartouche/opt"
	"cartouche/plan"
	"cartouche/samples"
)

var (
	em, wide, full = samples.Small, samples.Wide, samples.Full
	steps, rows    = samples.Steps, samples.Rows
	block          = samples.Block
	told, wholly   = samples.ToldBlock, samples.WhollyProgram
	every          = samples.EveryStep
)

// pass is a call that makes a block of a block.
type pass = func(plan.Block) plan.Block

// call is a pass with its name.
type call struct {
	name string
	pass pass
}

// calls are the passes in their order, and Block behind them.
func calls() []call {
	return []call{{"Tables", opt.Tables}, {"Fuse", opt.Fuse}, {"Thread", opt.Thread}, {"Trim", opt.Trim}, {"Block", opt.Block}}
}

// of is a program of one block.
func of(b plan.Block) plan.Program { return plan.Program{Blocks: []plan.Block{b}} }

// brief tells the beginning of what may be long.
func brief(x any) string {
	s := fmt.Sprint(x)
	return s[:min(len(s), 1000)]
}

// named tells steps and rows by names and numbers.
func named(b plan.Block) string {
	out := ""
	for _, l := range [][]plan.Ins{b.Dec, b.Enc} {
		for at, s := range l {
			out += fmt.Sprintf("%d %s %d %d %d %d; ", at, nameOf(s.Op), s.A, s.B, s.C, s.D)
		}
		out += "\n"
	}
	return brief(out + fmt.Sprint(b.Rows))
}

func nameOf(op int) string {
	if l := samples.Operations(); op >= 1 && op <= len(l) {
		return l[op-1]
	}
	return fmt.Sprint("operation ", op)
}

func same(a, b plan.Block) bool {
	return slices.Equal(a.Dec, b.Dec) && slices.Equal(a.Enc, b.Enc) && slices.Equal(a.Rows, b.Rows)
}

// look holds a block against what it must be; from is what it was made of.
func look(t *testing.T, what string, got, want plan.Block, from ...plan.Block) {
	t.Helper()
	if same(got, want) {
		return
	}
	for _, b := range from {
		what += " of\n" + named(b) + "\n"
	}
	t.Errorf("%s:\n%s\nwant\n%s", what, named(got), named(want))
}

// lookAt looks at what a pass makes of a block that is valid alone.
func lookAt(t *testing.T, what string, pass pass, b, want plan.Block) {
	t.Helper()
	if !plan.Valid(of(b)) || !plan.Valid(of(want)) {
		t.Errorf("%s: the test itself is wrong: not valid", what)
	}
	look(t, what, pass(b), want, b)
}

// lookAtReading looks at what a pass makes of reading steps and rows.
func lookAtReading(t *testing.T, what string, pass pass, dec, row, wantDec, wantRow string) {
	t.Helper()
	lookAt(t, what, pass, block(dec, "End", row), block(wantDec, "End", wantRow))
}

// lookAtWriting looks at what a pass makes of writing steps.
func lookAtWriting(t *testing.T, what string, pass pass, enc, want string) {
	t.Helper()
	lookAt(t, what, pass, block("Tag; Go 0", enc, ""), block("Tag; Go 0", want, ""))
}

// lowered tells a good table's program.
func lowered(t *testing.T, x api.Table) plan.Program {
	t.Helper()
	p, e := plan.Lower(x)
	if e != api.OK {
		t.Fatalf("Lower(%s): error %d", brief(x), e)
	}
	return p
}

// better tells opt.Program of a valid program.
func better(t *testing.T, p plan.Program) plan.Program {
	t.Helper()
	q, e := opt.Program(p)
	if e != api.OK {
		t.Errorf("Program(%s): error %d", brief(p), e)
	}
	return q
}
