package forge_test

import (
	"bytes"
	"fmt"
	"slices"
	"testing"

	"cartouche/api"
	"cartouche/forge"
	"cartouche/opt"
	"cartouche/plan"
	"cartouche/samples"
)

var (
	em, wide, full      = samples.Small, samples.Wide, samples.Full
	told, shortly       = samples.Told, samples.Shortly
	msg, field          = samples.Msg, samples.Field
	num, str            = samples.Num, samples.Str
	sameTable, samePlan = samples.SameTable, samples.SameProgram
)

type answer = forge.Answer

// brief tells the beginning of what may be long.
func brief(x any) string {
	s := fmt.Sprint(x)
	return s[:min(len(s), 600)]
}

// of tells a good table's forge.
func of(t *testing.T, x api.Table) *forge.Forge {
	t.Helper()
	f, e := forge.Of(x)
	if e != api.OK || f == nil {
		t.Fatalf("Of(%s): error %d", brief(x), e)
	}
	return f
}

// better tells a good table's optimised program, made without a forge.
func better(t *testing.T, x api.Table) plan.Program {
	t.Helper()
	p, e := plan.Lower(x)
	if e != api.OK {
		t.Fatalf("Lower(%s): error %d", brief(x), e)
	}
	q, e := opt.Program(p)
	if e != api.OK {
		t.Fatalf("Program of Lower(%s): error %d", brief(x), e)
	}
	return q
}

// sameBlock tells whether two blocks are the same.
func sameBlock(a, b plan.Block) bool {
	return samePlan(plan.Program{Blocks: []plan.Block{a}}, plan.Program{Blocks: []plan.Block{b}})
}

// isNoBlock tells whether nothing stands in a block.
func isNoBlock(b plan.Block) bool { return len(b.Dec)+len(b.Enc)+len(b.Rows) == 0 }

// lookAtCounts sees how many types are compiled, and how often the machine ran.
func lookAtCounts(t *testing.T, what string, f *forge.Forge, compiled, runs int) {
	t.Helper()
	if got, ran := f.Compiled(), f.Runs(); got != compiled || ran != runs {
		t.Errorf("%s: %d compiled, %d runs, want %d, %d", what, got, ran, compiled, runs)
	}
}

// lookAtWarm sees how many were new, or which error there is.
func lookAtWarm(t *testing.T, f *forge.Forge, list []int, workers, want int, wantE api.Errno) {
	t.Helper()
	if n, e := f.Warm(list, workers); n != want || e != wantE {
		t.Errorf("Warm(%v, %d): %d, error %d, want %d, error %d", brief(list), workers, n, e, want, wantE)
	}
}

// lookAtDecode sees what is read.
func lookAtDecode(t *testing.T, f *forge.Forge, name string, b []byte, want api.Msg, wantE api.Errno) {
	t.Helper()
	if m, e := f.Decode(name, b); e != wantE || told(m) != told(want) {
		t.Errorf("Decode(%q, %s): %s, error %d, want %s, error %d", name, brief(b), shortly(m), e, shortly(want), wantE)
	}
}

// lookAtEncode sees what is written.
func lookAtEncode(t *testing.T, f *forge.Forge, name string, m api.Msg, want []byte, wantE api.Errno) {
	t.Helper()
	if b, e := f.Encode(name, m); e != wantE || !bytes.Equal(b, want) {
		t.Errorf("Encode(%q, %s): %s, error %d, want %s, error %d", name, shortly(m), brief(b), e, brief(want), wantE)
	}
}

// toldAll tells answers, in order.
func toldAll(l []forge.Answer) string {
	var out []string
	for _, a := range l {
		out = append(out, fmt.Sprint(told(a.M), " ", int(a.E)))
	}
	return fmt.Sprint(out)
}

// lookAtAll sees what is read of many.
func lookAtAll(t *testing.T, f *forge.Forge, name string, l [][]byte, workers int, want []forge.Answer, wantE api.Errno) {
	t.Helper()
	if got, e := f.DecodeAll(name, l, workers); e != wantE || len(got) != len(want) || toldAll(got) != toldAll(want) {
		t.Errorf("DecodeAll(%q, %s, %d): %s, error %d, want %s, error %d", name, brief(l), workers, brief(toldAll(got)), e, brief(toldAll(want)), wantE)
	}
}

// numbers tells the indices of a table's types.
func numbers(x api.Table) []int {
	var out []int
	for i := range x.Types {
		out = append(out, i)
	}
	return out
}

// messages tells the indices of its messages.
func messages(x api.Table) []int {
	return slices.DeleteFunc(numbers(x), func(i int) bool { return x.Types[i].Enum })
}
