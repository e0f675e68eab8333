package code_test

import (
	"bytes"
	"fmt"
	"hash/fnv"
	"strings"
	"testing"

	"cartouche/api"
	"cartouche/code"
	"cartouche/opt"
	"cartouche/plan"
	"cartouche/samples"
)

var (
	em, wide, full = samples.Small, samples.Wide, samples.Full
	steps, rows    = samples.Steps, samples.Rows
	block          = samples.Block
	every          = samples.EveryStep
	wholly, same   = samples.WhollyProgram, samples.SameProgram
)

// of is a program of these blocks.
func of(l ...plan.Block) plan.Program { return plan.Program{Blocks: l} }

// enum is E's program of chapter 16.
func enum() plan.Program { return of(plan.Block{Rows: rows("0 0")}) }

// brief tells the beginning of what may be long.
func brief(x any) string {
	s := fmt.Sprint(x)
	return s[:min(len(s), 1000)]
}

// lines tells lines as a text, each with its end.
func lines(l ...string) string {
	var out strings.Builder
	for _, s := range l {
		out.WriteString(s + "\n")
	}
	return out.String()
}

// lookAtBytes sees that a program has these bytes, and that they are read as it.
func lookAtBytes(t *testing.T, what string, p plan.Program, want []byte) {
	t.Helper()
	if got, e := code.Bytes(p); e != api.OK || !bytes.Equal(got, want) {
		t.Errorf("%s: Bytes(%s) is %s, error %d, want %s", what, brief(p), brief(got), e, brief(want))
	}
	if got, e := code.Read(want); e != api.OK || !plan.Equal(got, p) || !same(got, p) {
		t.Errorf("%s: Read(%s) is %s, error %d, want %s", what, brief(want), brief(got), e, brief(p))
	}
}

// lookAtText sees that a program has this text, and that it is read as it.
func lookAtText(t *testing.T, what string, p plan.Program, want string) {
	t.Helper()
	if got, e := code.Text(p); e != api.OK || got != want {
		t.Errorf("%s: Text(%s) is\n%s, error %d, want\n%s", what, brief(p), brief(got), e, brief(want))
	}
	if got, e := code.Parse(want); e != api.OK || !plan.Equal(got, p) || !same(got, p) {
		t.Errorf("%s: Parse of\n%s is %s, error %d, want %s", what, brief(want), brief(got), e, brief(p))
	}
}

// lookAtSum sees that a program has the sum of these bytes.
func lookAtSum(t *testing.T, what string, p plan.Program, b []byte) {
	t.Helper()
	h := fnv.New64a()
	h.Write(b)
	if got, e := code.Sum(p); e != api.OK || got != h.Sum64() {
		t.Errorf("%s: Sum(%s) is %d, error %d, want %d", what, brief(p), got, e, h.Sum64())
	}
}

// lookAtNoProgram sees that a program is refused by each call that takes one.
func lookAtNoProgram(t *testing.T, what string, p plan.Program) {
	t.Helper()
	if b, e := code.Bytes(p); e != api.ErrProgram || len(b) > 0 {
		t.Errorf("%s: Bytes(%s) is %s, error %d", what, brief(p), brief(b), e)
	}
	if s, e := code.Text(p); e != api.ErrProgram || s != "" {
		t.Errorf("%s: Text(%s) is %s, error %d", what, brief(p), brief(s), e)
	}
	if n, e := code.Sum(p); e != api.ErrProgram || n != 0 {
		t.Errorf("%s: Sum(%s) is %d, error %d", what, brief(p), n, e)
	}
}

// lookAtNoBytes sees that bytes are refused.
func lookAtNoBytes(t *testing.T, what string, b []byte) {
	t.Helper()
	if p, e := code.Read(b); e != api.ErrProgram || len(p.Blocks) > 0 {
		t.Errorf("%s: Read(%s) is %s, error %d", what, brief(b), brief(p), e)
	}
}

// lookAtNoText sees that a text is refused.
func lookAtNoText(t *testing.T, what, s string) {
	t.Helper()
	if p, e := code.Parse(s); e != api.ErrProgram || len(p.Blocks) > 0 {
		t.Errorf("%s: Parse(%s) is %s, error %d", what, brief(fmt.Sprintf("%q", s)), brief(p), e)
	}
}

// lowered tells a good table's program.
func lowered(t *testing.T, x api.Table) plan.Program {
	t.Helper()
	p, e := plan.Lower(x)
	if e != api.OK {
		t.Fatalf("Lower(%s): error %d", brief(x), e)
	}
	return p
}

// better tells a valid program optimised.
func better(t *testing.T, p plan.Program) plan.Program {
	t.Helper()
	q, e := opt.Program(p)
	if e != api.OK {
		t.Fatalf("Program(%s): error %d", brief(p), e)
	}
	return q
}

// some tells a valid program by chance: of any steps, lowered, optimised, or that of each operation.
func some(t *testing.T, m *samples.Maker) plan.Program {
	t.Helper()
	return samples.Pick(m, m.Program, m.Program, m.Knotted, every,
		func() plan.Program { return lowered(t, m.Table()) }, func() plan.Program { return better(t, lowered(t, m.Table())) },
		func() plan.Program { return lowered(t, m.Rich()) }, func() plan.Program { return better(t, lowered(t, m.Rich())) })()
}
