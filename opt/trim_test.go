package opt_test

import (
	"testing"

	"cartouche/opt"
	"cartouche/plan"
)

func trimmedReading(t *testing.T, what, dec, row, want, wantRow string) {
	t.Helper()
	lookAtReading(t, what, opt.Trim, dec, row, want, wantRow)
}

func TestP14_4Reading(t *testing.T) {
	trimmedReading(t, "behind a Go", "Tag; Go 0; Keep; Go 0", "", "Tag; Go 0", "")
	trimmedReading(t, "between", "Tag; Go 4; Keep; Keep; Keep; Go 0", "", "Tag; Go 2; Keep; Go 0", "")
	trimmedReading(t, "by steps that are not reached alone", "Tag; Go 5; Case 8 3; Go 4; Go 5; Keep; Go 0", "", "Tag; Go 2; Keep; Go 0", "")
	trimmedReading(t, "a Case that is not reached", "Tag; Go 4; Case 8 5; Keep; Go 0; Keep; Go 0", "", "Tag; Go 2; Go 0", "")
	trimmedReading(t, "both ways of a Case", "Tag; Case 8 4; Go 0; Keep; Clear 1; Go 0", "", "Tag; Case 8 3; Go 0; Clear 1; Go 0", "")
	trimmedReading(t, "the end of it", "Tag; Case 8 3; Go 0; Keep; Go 0; Go 0", "", "Tag; Case 8 3; Go 0; Keep; Go 0", "")
	trimmedReading(t, "each other step goes on", "Tag; Read Enum; Set 1; Add 1; Clear 1; Msg 1 0 0; Row 1 Int32 0; Pair 1 Bool Int32 0; Keep; ReadSet Int32 1; ReadAdd Int32 1; Go 0; Keep; Go 0", "",
		"Tag; Read Enum; Set 1; Add 1; Clear 1; Msg 1 0 0; Row 1 Int32 0; Pair 1 Bool Int32 0; Keep; ReadSet Int32 1; ReadAdd Int32 1; Go 0", "")
	trimmedReading(t, "Go to places far ahead", "Tag; Case 8 6; Go 9; Keep; Keep; Keep; Clear 1; Go 11; Keep; Clear 2; Go 0; Clear 3; Go 0", "", "Tag; Case 8 3; Go 5; Clear 1; Go 7; Clear 2; Go 0; Clear 3; Go 0", "")
	b := plan.Block{Dec: steps("Tag; Sym 1; Go 0; Keep; Go 0"), Enc: steps("End")} // Sym needs an enum beside it
	look(t, "Sym goes on", opt.Trim(b), block("Tag; Sym 1; Go 0", "End", ""))
}

// TestP14_4Rows has rows that go along, and rows of which no Jump is left.
func TestP14_4Rows(t *testing.T) {
	trimmedReading(t, "go along", "Tag; Go 3; Keep; Jump 6; Keep; Keep; Go 0", "8 5", "Tag; Go 2; Jump 4; Keep; Go 0", "8 3")
	trimmedReading(t, "reached by rows alone", "Tag; Jump 9; Keep; Clear 1; Go 0; Clear 2; Go 0; Keep; Keep; Keep; Go 0", "8 3; 16 5; 24 3", "Tag; Jump 6; Clear 1; Go 0; Clear 2; Go 0; Keep; Go 0", "8 2; 16 4; 24 2")
	trimmedReading(t, "not the next place", "Tag; Jump 4; Keep; Go 0; Go 0", "8 4", "Tag; Jump 2; Go 0", "8 2")
	trimmedReading(t, "the Jump taken out", "Tag; Go 4; Jump 3; Keep; Keep; Go 0", "8 3; 16 5", "Tag; Go 2; Keep; Go 0", "")
	trimmedReading(t, "one of two Jumps taken out", "Tag; Go 4; Jump 3; Keep; Jump 6; Keep; Clear 1; Clear 2; Go 0", "8 7", "Tag; Go 2; Jump 3; Clear 1; Clear 2; Go 0", "8 4")
	trimmedReading(t, "what a Jump alone would reach", "Tag; Go 6; Jump 3; Keep; Clear 1; Go 0; Go 0", "8 4", "Tag; Go 2; Go 0", "")
	trimmedReading(t, "two Jumps", "Tag; Jump 2; Jump 5; Keep; Keep; Clear 1; Keep; Go 0; Keep; Go 0", "8 6; 16 6; 24 6", "Tag; Jump 2; Jump 3; Clear 1; Keep; Go 0", "8 4; 16 4; 24 4")
}

// TestP14_4Writing: by Has and the next place each writing step is reached, but in blocks that go past some.
func TestP14_4Writing(t *testing.T) {
	for _, enc := range []string{"End", "Rest; End", "Has 1 3 0; Put 8; Val Int32; Has 2 5 0; Run 18 Uint32; Rest; End", "Has 1 2 Int32; Rest; Each 8 Bool 0; Pairs 10 Bool Bool 0; PutVal 8 Bool; Sub 0; End"} {
		lookAtWriting(t, enc, opt.Trim, enc, enc)
	}
	for enc, want := range map[string]string{"End; Rest; End": "End", "Has 1 3 0; End; Rest; Rest; End": "Has 1 2 0; End; Rest; End", "Has 1 2 0; End; Has 2 5 0; End; Rest; Rest; End": "Has 1 2 0; End; Has 2 4 0; End; Rest; End"} {
		look(t, "End not last: "+enc, opt.Trim(block("Tag; Go 0", enc, "")), block("Tag; Go 0", want, ""))
	}
}

// TestP14_4Stays has blocks of which each step is reached.
func TestP14_4Stays(t *testing.T) {
	for _, p := range []plan.Program{lowered(t, em()), lowered(t, wide())} {
		for _, b := range p.Blocks {
			look(t, "lowered", opt.Trim(b), b)
		}
	}
	dec := "Tag; Jump 4; Keep; Go 0; Keep; Go 0"
	trimmedReading(t, "a Jump", dec, "8 2", dec, "8 2")
}
