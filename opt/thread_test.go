package opt_test

import (
	"fmt"
	"slices"
	"testing"

	"cartouche/opt"
	"cartouche/plan"
)

func threaded(t *testing.T, what, dec, row, want, wantRow string) {
	t.Helper()
	lookAtReading(t, what, opt.Thread, dec, row, want, wantRow)
}

func TestP14_3Go(t *testing.T) {
	threaded(t, "one on", "Tag; Go 3; Keep; Go 5; Keep; Keep; Go 0", "", "Tag; Go 5; Keep; Go 5; Keep; Keep; Go 0", "")
	threaded(t, "two on", "Tag; Go 2; Go 3; Go 4; Keep; Go 0", "", "Tag; Go 4; Go 4; Go 4; Keep; Go 0", "")
	threaded(t, "to 0", "Tag; Go 2; Go 0", "", "Tag; Go 0; Go 0", "")
	threaded(t, "to 0 by many", "Tag; Go 2; Go 3; Go 4; Go 5; Go 0", "", "Tag; Go 0; Go 0; Go 0; Go 0; Go 0", "")
	threaded(t, "over others", "Tag; Go 5; Keep; Go 6; Keep; Go 7; Keep; Keep; Go 0", "", "Tag; Go 7; Keep; Go 6; Keep; Go 7; Keep; Keep; Go 0", "")
	threaded(t, "to the last Go", "Tag; Go 4; Keep; Go 4; Go 0", "", "Tag; Go 0; Keep; Go 0; Go 0", "")
}

// TestP14_3Case, with Jump and rows: what they name goes on, but not to 0.
func TestP14_3Case(t *testing.T) {
	threaded(t, "on", "Tag; Case 8 3; Keep; Go 5; Keep; Keep; Go 0", "", "Tag; Case 8 5; Keep; Go 5; Keep; Keep; Go 0", "")
	threaded(t, "two on", "Tag; Case 8 3; Keep; Go 4; Go 6; Keep; Keep; Go 0", "", "Tag; Case 8 6; Keep; Go 6; Go 6; Keep; Keep; Go 0", "")
	threaded(t, "not to 0", "Tag; Case 8 3; Keep; Go 0", "", "Tag; Case 8 3; Keep; Go 0", "")
	threaded(t, "to the last Go", "Tag; Case 8 3; Keep; Go 5; Keep; Go 7; Keep; Go 0; Go 0", "", "Tag; Case 8 7; Keep; Go 0; Keep; Go 0; Keep; Go 0; Go 0", "")
	threaded(t, "to a Go ahead of the end", "Tag; Case 8 3; Keep; Go 5; Keep; Go 0; Keep; Go 0", "", "Tag; Case 8 5; Keep; Go 0; Keep; Go 0; Keep; Go 0", "")
}

func TestP14_3Jump(t *testing.T) {
	threaded(t, "on", "Tag; Jump 3; Keep; Go 5; Keep; Keep; Go 0", "8 2; 16 3; 24 5", "Tag; Jump 5; Keep; Go 5; Keep; Keep; Go 0", "8 2; 16 5; 24 5")
	threaded(t, "not to 0", "Tag; Jump 3; Keep; Go 0", "8 2; 16 3", "Tag; Jump 3; Keep; Go 0", "8 2; 16 3")
	threaded(t, "to the last Go", "Tag; Jump 2; Go 3; Go 4; Go 5; Go 0", "8 2; 16 3; 24 4; 32 5", "Tag; Jump 5; Go 0; Go 0; Go 0; Go 0", "8 5; 16 5; 24 5; 32 5")
	threaded(t, "two Jumps", "Tag; Jump 2; Go 3; Jump 4; Go 6; Keep; Keep; Go 8; Go 0", "8 4; 16 7", "Tag; Jump 3; Go 3; Jump 6; Go 6; Keep; Keep; Go 0; Go 0", "8 6; 16 8")
	threaded(t, "a row alone", "Tag; Jump 5; Keep; Go 5; Keep; Keep; Go 0", "8 3", "Tag; Jump 5; Keep; Go 5; Keep; Keep; Go 0", "8 5")
}

// TestP14_3None has places at which no Go stands.
func TestP14_3None(t *testing.T) {
	for _, dec := range []string{"Tag; Go 0", "Tag; Keep; Go 0", "Tag; Case 8 2; Keep; Go 0", "Tag; Go 3; Go 0; Keep; Go 0", "Tag; Case 16 2; Case 16 3; Read Int32; Set 4; Go 0"} {
		threaded(t, dec, dec, "", dec, "")
	}
	dec := "Tag; Jump 3; Keep; Clear 1; Keep; Go 0"
	threaded(t, "Jump and rows", dec, "8 2; 16 4", dec, "8 2; 16 4")
	m := lowered(t, em()).Blocks[1]
	look(t, "M", opt.Thread(m), m)
}

// TestP14_3NoPlaces has numbers that are places of a Go, but no places.
func TestP14_3NoPlaces(t *testing.T) {
	dec := "Tag; Read Int64; Go 4; Go 5; Clear 3; Set 2; Row 3 Int64 0; ReadSet Int64 3; Msg 2 0 2; Case 24 10; Go 0"
	threaded(t, "fields, kinds, tags", dec, "", "Tag; Read Int64; Go 4; Go 5; Clear 3; Set 2; Row 3 Int64 0; ReadSet Int64 3; Msg 2 0 2; Case 24 10; Go 0", "")
	lookAt(t, "Has names no reading step", opt.Thread, block("Tag; Go 2; Go 3; Keep; Go 0", "Has 1 1 0; Has 1 2 0; End", ""), block("Tag; Go 3; Go 3; Keep; Go 0", "Has 1 1 0; Has 1 2 0; End", ""))
}

// TestP14_3Rings has Go's that go round: such a block is part of no valid program, but the pass ends.
func TestP14_3Rings(t *testing.T) {
	for _, dec := range []string{"Tag; Go 1", "Tag; Go 2; Go 1", "Tag; Case 8 2; Go 3; Go 4; Go 2; Go 0", "Go 0", "Go 1; Go 0", "Go 0; Go 0", "Tag; Go 3; Go 1; Go 2", "Tag; Go 2; Keep; Go 1"} {
		for _, row := range []string{"", "8 1", "8 2; 16 3"} {
			for _, c := range calls() {
				if got := c.pass(block(dec, "End", row)); c.name == "Thread" && len(got.Dec) != len(steps(dec)) {
					t.Errorf("%s: %s", dec, named(got))
				}
			}
		}
	}
	for _, row := range []plan.Line{{Tag: 8, To: -1}, {Tag: 8, To: 99}} {
		opt.Thread(plan.Block{Dec: steps("Tag; Go 9; Go 2; Jump 77; Case 8 -5; Go -1; Go 0"), Rows: []plan.Line{row}})
	}
}

// TestP14_3Long has a chain of all steps.
func TestP14_3Long(t *testing.T) {
	const many = 500
	b, want := plan.Block{Enc: steps("End")}, plan.Block{Enc: steps("End")}
	b.Dec = append(b.Dec, plan.Ins{Op: plan.Tag}, plan.Ins{Op: plan.Case, A: 8, B: 2})
	for at := 2; at < many; at++ {
		b.Dec = append(b.Dec, plan.Ins{Op: plan.Go, A: at + 1})
	}
	b.Dec = append(b.Dec, steps(fmt.Sprintf("Keep; Go %d; Go 0", many+2))...)
	want.Dec = slices.Clone(b.Dec)
	for at := 2; at < many; at++ {
		want.Dec[at].A = many
	}
	want.Dec[1].B, want.Dec[many+1].A = many, 0
	lookAt(t, "long", opt.Thread, b, want)
}
