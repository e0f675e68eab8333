package evolve_test

import (
	"fmt"
	"slices"
	"testing"

	"cartouche/api"
	"cartouche/evolve"
	"cartouche/samples"
	"cartouche/table"
)

var (
	em, wide, full     = samples.Small, samples.Wide, samples.Full
	tableOf, messageOf = samples.Table, samples.Message
)

type change = evolve.Change

// brief tells the beginning of what may be long.
func brief(x any) string {
	s := fmt.Sprintf("%+v", x)
	return s[:min(len(s), 1000)]
}

// turned tells a table with something changed.
func turned(x api.Table, turn func(l []api.Type)) api.Table {
	x = samples.CopyTable(x)
	turn(x.Types)
	return x
}

// enumOf is an enum's type.
func enumOf(name string, l ...api.Symbol) api.Type {
	return api.Type{Name: name, Enum: true, Symbols: l}
}

// ranges are told by pairs of numbers.
func ranges(l ...int) []api.Range {
	var out []api.Range
	for pair := range slices.Chunk(l, 2) {
		out = append(out, api.Range{Low: pair[0], High: pair[1]})
	}
	return out
}

// worst tells the worst class of changes.
func worst(l []change) int {
	out := evolve.Same
	for _, c := range l {
		out = max(out, c.Class)
	}
	return out
}

// lookAtDiff sees the changes between good tables, and their worst class.
func lookAtDiff(t *testing.T, what string, old, new api.Table, want ...change) {
	t.Helper()
	for i, x := range []api.Table{old, new} {
		if !table.Good(x) {
			t.Fatalf("%s: table %d is not good: %s", what, i, brief(x))
		}
	}
	if got, class, e := evolve.Diff(old, new); e != api.OK || class != worst(want) || !slices.Equal(got, want) {
		t.Errorf("%s: Diff: %s, class %d, error %d, want %s, class %d", what, brief(got), class, e, brief(want), worst(want))
	}
}

// lookAtFresh sees a message's new numbers, or an error.
func lookAtFresh(t *testing.T, what string, old, new api.Table, name string, wantE api.Errno, want ...int) {
	t.Helper()
	if got, e := evolve.Fresh(old, new, name); e != wantE || !slices.Equal(got, want) {
		t.Errorf("%s: Fresh(.., %.40q): %s, error %d, want %s, error %d", what, name, brief(got), e, brief(want), wantE)
	}
}

// lookAtRefused sees that both calls refuse the tables, whatever name is asked.
func lookAtRefused(t *testing.T, what string, old, new api.Table) {
	t.Helper()
	if got, class, e := evolve.Diff(old, new); e != api.ErrArg || class != 0 || len(got) > 0 {
		t.Errorf("%s: Diff: %s, class %d, error %d", what, brief(got), class, e)
	}
	for _, name := range []string{"M", "E", "N", ""} {
		lookAtFresh(t, what, old, new, name, api.ErrArg)
	}
}

// told tells all that both calls answer.
func told(old, new api.Table, name string) string {
	l, class, e := evolve.Diff(old, new)
	numbers, e2 := evolve.Fresh(old, new, name)
	return fmt.Sprint(l, class, int(e), numbers, int(e2))
}
