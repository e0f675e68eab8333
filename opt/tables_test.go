package opt_test

import (
	"fmt"
	"slices"
	"strings"
	"testing"

	"cartouche/opt"
	"cartouche/plan"
	"cartouche/samples"
)

func tabled(t *testing.T, what, dec, want, wantRows string) {
	t.Helper()
	lookAtReading(t, what, opt.Tables, dec, "", want, wantRows)
}

func TestP14_1Chain(t *testing.T) {
	tabled(t, "one Case", "Tag; Case 8 3; Keep; Keep; Go 0", "Tag; Jump 3; Keep; Keep; Go 0", "8 2")
	tabled(t, "one Case to the next place", "Tag; Case 8 2; Go 0", "Tag; Jump 2; Go 0", "8 2")
	tabled(t, "two Cases", "Tag; Case 8 4; Keep; Go 0; Case 16 7; Clear 1; Go 0; Keep; Go 0", "Tag; Jump 7; Keep; Go 0; Case 16 7; Clear 1; Go 0; Keep; Go 0", "8 2; 16 5")
	tabled(t, "a Case right behind a Case", "Tag; Case 8 2; Case 16 3; Case 24 4; Go 0", "Tag; Jump 4; Case 16 3; Case 24 4; Go 0", "8 2; 16 3; 24 4")
	tabled(t, "to a Go", "Tag; Case 8 4; Keep; Go 0; Go 5; Go 0", "Tag; Jump 4; Keep; Go 0; Go 5; Go 0", "8 2")
}

// TestP14_1Beside has Cases that are none of the chain: they stay, and have no rows.
func TestP14_1Beside(t *testing.T) {
	tabled(t, "a Case that none goes to", "Tag; Case 8 4; Case 16 3; Keep; Case 24 6; Case 32 6; Keep; Go 0", "Tag; Jump 6; Case 16 3; Keep; Case 24 6; Case 32 6; Keep; Go 0", "8 2; 24 5")
	tabled(t, "a Case behind the chain", "Tag; Case 8 3; Keep; Keep; Case 16 6; Keep; Go 0", "Tag; Jump 3; Keep; Keep; Case 16 6; Keep; Go 0", "8 2")
	tabled(t, "by a Go, not by a Case", "Tag; Case 8 3; Keep; Go 4; Case 16 6; Keep; Go 0", "Tag; Jump 3; Keep; Go 4; Case 16 6; Keep; Go 0", "8 2")
}

// TestP14_1Rising has tags that fall, and tags at the edges.
func TestP14_1Rising(t *testing.T) {
	tabled(t, "falling", "Tag; Case 32 3; Keep; Case 24 5; Keep; Case 16 7; Keep; Case 8 9; Keep; Go 0", "Tag; Jump 9; Keep; Case 24 5; Keep; Case 16 7; Keep; Case 8 9; Keep; Go 0", "8 8; 16 6; 24 4; 32 2")
	tabled(t, "the least and the greatest", "Tag; Case 4294967293 2; Case 8 3; Case 4294967288 4; Case 13 5; Go 0", "Tag; Jump 5; Case 8 3; Case 4294967288 4; Case 13 5; Go 0", "8 3; 13 5; 4294967288 4; 4294967293 2")
}

// TestP14_1Twice has a tag that comes again: its row is the first one's.
func TestP14_1Twice(t *testing.T) {
	tabled(t, "twice", "Tag; Case 8 3; Keep; Case 8 5; Clear 1; Keep; Go 0", "Tag; Jump 5; Keep; Case 8 5; Clear 1; Keep; Go 0", "8 2")
	tabled(t, "between others", "Tag; Case 16 2; Case 8 3; Case 16 4; Case 8 5; Case 24 6; Case 16 7; Go 0", "Tag; Jump 7; Case 8 3; Case 16 4; Case 8 5; Case 24 6; Case 16 7; Go 0", "8 3; 16 2; 24 6")
	const many = 300
	var dec, want strings.Builder
	for at := 1; at <= many; at++ {
		fmt.Fprintf(&dec, "Case 8 %d; ", at+1)
	}
	fmt.Fprintf(&want, "Tag; Jump %d; %s Go 0", many+1, strings.TrimPrefix(dec.String(), "Case 8 2; "))
	tabled(t, "very often", "Tag; "+dec.String()+"Go 0", want.String(), "8 2")
}

// TestP14_1ManyTwice has many tags that come again, in any order: more than can be put in order by looking at each two.
func TestP14_1ManyTwice(t *testing.T) {
	m := samples.New(1411)
	for range 50 {
		b, want := plan.Block{Dec: steps("Tag"), Enc: steps("End")}, plan.Block{Enc: steps("End")}
		firsts := map[int]int{}
		for at := 1; at <= 200; at++ {
			tag := 8 * (1 + m.Below(40))
			b.Dec = append(b.Dec, plan.Ins{Op: plan.Case, A: tag, B: at + 1})
			if firsts[tag] == 0 {
				firsts[tag] = at + 1
			}
		}
		b.Dec = append(b.Dec, plan.Ins{Op: plan.Go})
		want.Dec = slices.Concat(steps("Tag; Jump 201"), b.Dec[2:])
		for tag := 8; tag <= 8*40; tag += 8 {
			if firsts[tag] > 0 {
				want.Rows = append(want.Rows, plan.Line{Tag: tag, To: firsts[tag]})
			}
		}
		lookAt(t, "many", opt.Tables, b, want)
	}
}

// TestP14_1None has blocks that stay.
func TestP14_1None(t *testing.T) {
	for _, dec := range []string{"Tag; Go 0", "Tag; Keep; Go 0", "Tag; Keep; Case 8 4; Keep; Go 0", "Tag; Go 2; Case 8 3; Go 0", "Tag; Read Int32; Set 1; Go 0"} {
		tabled(t, "no Case at step 1", dec, dec, "")
	}
	for _, row := range []string{"8 5", "16 4; 24 6"} {
		dec := "Tag; Case 8 3; Keep; Jump 5; Keep; Keep; Go 0"
		lookAtReading(t, "rows already", opt.Tables, dec, row, dec, row)
		dec = "Tag; Jump 3; Keep; Keep; Case 8 5; Keep; Go 0"
		lookAtReading(t, "a Jump already", opt.Tables, dec, row, dec, row)
	}
}

// TestP14_1Rest sees that the writing steps stay.
func TestP14_1Rest(t *testing.T) {
	enc := "Has 1 3 Int32; Put 8; Val Int32; Rest; End"
	lookAt(t, "with Enc", opt.Tables, block("Tag; Case 8 3; Keep; Go 0", enc, ""), block("Tag; Jump 3; Keep; Go 0", enc, "8 2"))
	m := lowered(t, em()).Blocks[1]
	look(t, "M", opt.Tables(m), plan.Block{Dec: append(steps("Tag; Jump 15"), m.Dec[2:]...), Enc: m.Enc, Rows: rows("8 2; 16 6; 18 10; 26 13")})
}
