package opt_test

import (
	"testing"

	"cartouche/api"
	"cartouche/opt"
	"cartouche/samples"
)

func fusedReading(t *testing.T, what, dec, row, want, wantRow string) {
	t.Helper()
	lookAtReading(t, what, opt.Fuse, dec, row, want, wantRow)
}

func fusedWriting(t *testing.T, what, enc, want string) {
	t.Helper()
	lookAtWriting(t, what, opt.Fuse, enc, want)
}

// TestP14_2Pairs has each pair with each kind.
func TestP14_2Pairs(t *testing.T) {
	for _, k := range samples.Kinds()[:api.Enum] {
		fusedReading(t, "Read, Set", "Tag; Read "+k+"; Set 7; Go 0", "", "Tag; ReadSet "+k+" 7; Go 0", "")
		fusedReading(t, "Read, Add", "Tag; Read "+k+"; Add 7; Go 0", "", "Tag; ReadAdd "+k+" 7; Go 0", "")
		fusedWriting(t, "Put, Val", "Put 77; Val "+k+"; End", "PutVal 77 "+k+"; End")
	}
	fusedReading(t, "the greatest numbers", "Tag; Read Enum; Set 536870911; Read Enum; Add 536870911; Go 0", "", "Tag; ReadSet Enum 536870911; ReadAdd Enum 536870911; Go 0", "")
	fusedWriting(t, "the greatest numbers", "Put 4294967293; Val Enum; End", "PutVal 4294967293 Enum; End")
}

// TestP14_2Many has pairs one behind the other, and what stands between them.
func TestP14_2Many(t *testing.T) {
	fusedReading(t, "three", "Tag; Read Bool; Set 1; Read Int32; Add 2; Read Bytes; Set 3; Go 0", "", "Tag; ReadSet Bool 1; ReadAdd Int32 2; ReadSet Bytes 3; Go 0", "")
	fusedReading(t, "two Reads", "Tag; Read Bool; Read Int32; Set 1; Go 0", "", "Tag; Read Bool; ReadSet Int32 1; Go 0", "")
	fusedReading(t, "two Sets", "Tag; Read Bool; Set 1; Set 2; Add 3; Go 0", "", "Tag; ReadSet Bool 1; Set 2; Add 3; Go 0", "")
	fusedReading(t, "many Reads", "Tag; Read Bool; Read Int32; Read Bytes; Add 1; Add 2; Go 0", "", "Tag; Read Bool; Read Int32; ReadAdd Bytes 1; Add 2; Go 0", "")
	fusedWriting(t, "three", "Put 8; Val Bool; Put 16; Val Int32; Put 26; Val String; End", "PutVal 8 Bool; PutVal 16 Int32; PutVal 26 String; End")
	fusedWriting(t, "two Puts", "Put 8; Put 16; Val Int32; End", "Put 8; PutVal 16 Int32; End")
	fusedWriting(t, "two Vals", "Put 8; Val Int32; Val Bool; End", "PutVal 8 Int32; Val Bool; End")
}

// TestP14_2NoPair has steps that make no pair.
func TestP14_2NoPair(t *testing.T) {
	for _, dec := range []string{
		"Tag; Go 0", "Tag; Set 1; Read Bool; Go 0", "Tag; Add 1; Read Bool; Go 0", "Tag; Read Bool; Clear 1; Set 1; Go 0", "Tag; Read Bool; Keep; Add 1; Go 0", "Tag; Read Bool; Go 3; Set 1; Go 0", "Tag; ReadSet Bool 1; Set 2; Go 0", "Tag; ReadAdd Bool 1; Add 2; Go 0",
		"Tag; Read Bool; ReadSet Int32 1; Go 0", "Tag; Read Bool; Clear 1; Go 0", "Tag; Row 1 Bool 0; Set 1; Go 0", "Tag; Msg 1 0 0; Add 1; Go 0", "Tag; Read Bool; Go 0",
	} {
		fusedReading(t, dec, dec, "", dec, "")
	}
	for _, enc := range []string{"End", "Val Bool; Put 8; End", "Put 8; Rest; Val Bool; End", "Put 8; Sub 0; End", "Put 8; Has 1 2 0; Val Bool; End", "Each 8 Bool 0; Val Bool; End", "Has 1 1 0; Val Bool; End", "Put 8; PutVal 8 Bool; End", "PutVal 8 Bool; Val Bool; End", "Put 8; End"} {
		fusedWriting(t, enc, enc, enc)
	}
	b := block("Tag; Read Enum; Sym 1; Set 1; Go 0", "End", "") // Sym needs an enum beside it
	look(t, "Sym between", opt.Fuse(b), b)
}

// TestP14_2Named has pairs whose second step's place is named, by each that can name it: they stay.
func TestP14_2Named(t *testing.T) {
	for _, second := range []string{"Set 1", "Add 1"} {
		for _, dec := range []string{"Tag; Case 8 3; Read Bool; " + second + "; Go 0", "Tag; Go 3; Read Bool; " + second + "; Go 0"} {
			fusedReading(t, "by a Case, a Go", dec, "", dec, "")
		}
		fusedReading(t, "by a Jump", "Tag; Jump 3; Read Bool; "+second+"; Go 0", "8 4", "Tag; Jump 3; Read Bool; "+second+"; Go 0", "8 4")
		fusedReading(t, "by a row", "Tag; Jump 4; Read Bool; "+second+"; Go 0", "8 4; 16 3", "Tag; Jump 4; Read Bool; "+second+"; Go 0", "8 4; 16 3")
		fusedReading(t, "by a Go that is not reached", "Tag; Go 5; Go 4; Read Bool; "+second+"; Go 0", "", "Tag; Go 5; Go 4; Read Bool; "+second+"; Go 0", "")
	}
	fusedWriting(t, "by a Has", "Has 1 2 0; Put 8; Val Bool; End", "Has 1 2 0; Put 8; Val Bool; End")
	fusedWriting(t, "by a Has of two", "Has 1 2 Int32; Put 8; Val Bool; Put 16; Val Int32; End", "Has 1 2 Int32; Put 8; Val Bool; PutVal 16 Int32; End")
}

// TestP14_2Sides has numbers of one side that are places of the other one, or no places at all: they name nothing here.
func TestP14_2Sides(t *testing.T) {
	lookAt(t, "a Has names no reading step", opt.Fuse,
		block("Tag; Read Bool; Set 1; Go 0", "Has 2 2 0; Rest; End", ""), block("Tag; ReadSet Bool 1; Go 0", "Has 2 2 0; Rest; End", ""))
	lookAt(t, "a Case and a row name no writing step", opt.Fuse,
		block("Tag; Case 8 2; Jump 3; Go 0", "Rest; Put 8; Val Bool; Put 8; Val Int32; End", "8 3"), block("Tag; Case 8 2; Jump 3; Go 0", "Rest; PutVal 8 Bool; PutVal 8 Int32; End", "8 3"))
	fusedReading(t, "fields and kinds are no places", "Tag; Clear 4; Row 4 Uint32 0; Read Uint32; Set 4; ReadSet Uint32 4; Case 32 7; Go 0", "", "Tag; Clear 4; Row 4 Uint32 0; ReadSet Uint32 4; ReadSet Uint32 4; Case 32 6; Go 0", "")
	fusedWriting(t, "tags and fields are no places", "Has 9 4 Sint64; Has 9 9 Sint64; Put 24; Rest; Rest; Rest; Rest; Rest; Put 9; Val Bool; End", "Has 9 4 Sint64; Has 9 9 Sint64; Put 24; Rest; Rest; Rest; Rest; Rest; Put 9; Val Bool; End")
}

// TestP14_2GoAlong has places that are named behind pairs, at a pair's first step, and ahead of all.
func TestP14_2GoAlong(t *testing.T) {
	fusedReading(t, "Case, Go", "Tag; Case 8 5; Read Bool; Set 1; Go 8; Case 16 8; Read Int32; Add 2; Keep; Go 0", "", "Tag; Case 8 4; ReadSet Bool 1; Go 6; Case 16 6; ReadAdd Int32 2; Keep; Go 0", "")
	fusedReading(t, "Jump, rows", "Tag; Jump 7; Read Bool; Set 1; Go 0; Read Int32; Add 2; Keep; Go 0", "8 2; 16 5; 24 7; 32 8", "Tag; Jump 5; ReadSet Bool 1; Go 0; ReadAdd Int32 2; Keep; Go 0", "8 2; 16 4; 24 5; 32 6")
	fusedReading(t, "to the first step", "Tag; Case 8 2; Read Bool; Set 1; Go 5; Read Int32; Set 2; Go 0", "", "Tag; Case 8 2; ReadSet Bool 1; Go 4; ReadSet Int32 2; Go 0", "")
	fusedReading(t, "beside a pair that stays", "Tag; Case 8 5; Read Bool; Set 1; Read Bool; Set 2; Read Bool; Set 3; Go 0", "", "Tag; Case 8 4; ReadSet Bool 1; Read Bool; Set 2; ReadSet Bool 3; Go 0", "")
	fusedWriting(t, "Has", "Has 1 3 0; Put 8; Val Bool; Has 2 6 0; Put 16; Val Bool; Has 3 9 0; Put 24; Sub 0; Rest; End", "Has 1 2 0; PutVal 8 Bool; Has 2 4 0; PutVal 16 Bool; Has 3 7 0; Put 24; Sub 0; Rest; End")
	fusedWriting(t, "Has to a Put", "Has 1 1 0; Put 8; Val Bool; Has 2 4 0; Put 16; Val Bool; End", "Has 1 1 0; PutVal 8 Bool; Has 2 3 0; PutVal 16 Bool; End")
}
