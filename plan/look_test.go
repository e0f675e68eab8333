package plan_test

import (
	"fmt"
	"testing"

	"cartouche/api"
	"cartouche/plan"
	"cartouche/samples"
)

var (
	em, wide, full      = samples.Small, samples.Wide, samples.Full
	tableOf, messageOf  = samples.Table, samples.Message
	wrongTables         = samples.WrongTables
	keyKinds            = samples.KeyKinds
	told, wholly        = samples.ToldBlock, samples.WhollyProgram
	copied, sameProgram = samples.CopyProgram, samples.SameProgram
	operations, kinds   = samples.Operations(), samples.Kinds()
	steps, rows         = samples.Steps, samples.Rows
	rich                = samples.EveryStep
)

// block is a message's without rows, told by two texts.
func block(dec, enc string) plan.Block { return samples.Block(dec, enc, "") }

// brief tells the beginning of what may be long.
func brief(x any) string {
	s := fmt.Sprint(x)
	return s[:min(len(s), 1000)]
}

func lookAtType(t *testing.T, what string, x api.Table, index int, want plan.Block) {
	t.Helper()
	got, e := plan.LowerType(x, index)
	if e != api.OK || told(got) != told(want) {
		t.Errorf("%s: LowerType(.., %d): error %d\n%s\nwant\n%s", what, index, e, brief(told(got)), brief(told(want)))
	}
}

func lookAtNoType(t *testing.T, what string, x api.Table, index int) {
	t.Helper()
	if b, e := plan.LowerType(x, index); e != api.ErrArg || len(b.Dec)+len(b.Enc)+len(b.Rows) > 0 {
		t.Errorf("%s: LowerType(.., %d): %s, error %d", what, index, brief(told(b)), e)
	}
}

func lookAtNoProgram(t *testing.T, what string, x api.Table) {
	t.Helper()
	if p, e := plan.Lower(x); e != api.ErrArg || len(p.Blocks) > 0 {
		t.Errorf("%s: Lower: %d blocks, error %d", what, len(p.Blocks), e)
	}
}

func lookAtValid(t *testing.T, what string, p plan.Program, want bool) {
	t.Helper()
	if got := plan.Valid(p); got != want {
		t.Errorf("%s: Valid is %v, want %v: %s", what, got, want, brief(p))
	}
}

// lowered tells a good table's program.
func lowered(t *testing.T, x api.Table) plan.Program {
	t.Helper()
	p, e := plan.Lower(x)
	if e != api.OK {
		t.Fatalf("Lower(%s): error %d", brief(x), e)
	}
	return p
}
