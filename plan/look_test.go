package plan_test

import (
	"fmt"
	"slices"
	"strconv"
	"strings"
	"testing"

	"cartouche/api"
	"cartouche/plan"
	"cartouche/samples"
)

var (
	em, wide, full      = samples.Small, samples.Wide, samples.Full
	tableOf, messageOf  = samples.Table, samples.Message
	wrongTables         = samples.WrongTables
	keyKinds            = samples.KeyKinds
	told, wholly        = samples.ToldBlock, samples.WhollyProgram
	copied, sameProgram = samples.CopyProgram, samples.SameProgram
)

// operations are the names of the operations in the chapter's order, from 1 on.
var operations = strings.Fields("Tag Case Jump Go Read Sym Set Add Clear Msg Row Pair Keep ReadSet ReadAdd Has Put Val Sub Each Run Pairs Rest End PutVal")

// kinds are the names of the kinds in api's order, from 1 on.
var kinds = strings.Fields("Bool Int32 Int64 Uint32 Uint64 Sint32 Sint64 Fixed32 Fixed64 Sfixed32 Sfixed64 Float Double String Bytes Enum Message")

// steps reads steps as the chapter writes them: by ;, each an operation and its numbers, a kind by its name.
func steps(text string) []plan.Ins {
	var out []plan.Ins
	for part := range strings.SplitSeq(text, ";") {
		if words := strings.Fields(part); len(words) > 0 {
			out = append(out, stepOf(words))
		}
	}
	return out
}

func stepOf(words []string) plan.Ins {
	var n [4]int
	for i, w := range words[1:] {
		n[i] = numberOf(w)
	}
	op := slices.Index(operations, words[0]) + 1
	if op == 0 {
		panic("no operation: " + words[0])
	}
	return plan.Ins{Op: op, A: n[0], B: n[1], C: n[2], D: n[3]}
}

func numberOf(word string) int {
	if kind := slices.Index(kinds, word); kind >= 0 {
		return kind + 1
	}
	n, err := strconv.Atoi(word)
	if err != nil {
		panic(err)
	}
	return n
}

// rows reads rows: by ;, each a tag and a place.
func rows(text string) []plan.Line {
	var out []plan.Line
	for part := range strings.SplitSeq(text, ";") {
		if words := strings.Fields(part); len(words) > 0 {
			out = append(out, plan.Line{Tag: numberOf(words[0]), To: numberOf(words[1])})
		}
	}
	return out
}

// block is a message's, told by two texts.
func block(dec, enc string) plan.Block { return plan.Block{Dec: steps(dec), Enc: steps(enc)} }

// brief tells the beginning of what may be long.
func brief(x any) string {
	s := fmt.Sprint(x)
	return s[:min(len(s), 1000)]
}

func lookAtType(t *testing.T, what string, x api.Table, index int, want plan.Block) {
	t.Helper()
	got, e := plan.LowerType(x, index)
	if e != api.OK || told(got) != told(want) {
		t.Errorf("%s: LowerType(.., %d): error %d\n%s\nwant\n%s", what, index, e, brief(told(got)), brief(told(want)))
	}
}

func lookAtNoType(t *testing.T, what string, x api.Table, index int) {
	t.Helper()
	if b, e := plan.LowerType(x, index); e != api.ErrArg || len(b.Dec)+len(b.Enc)+len(b.Rows) > 0 {
		t.Errorf("%s: LowerType(.., %d): %s, error %d", what, index, brief(told(b)), e)
	}
}

func lookAtNoProgram(t *testing.T, what string, x api.Table) {
	t.Helper()
	if p, e := plan.Lower(x); e != api.ErrArg || len(p.Blocks) > 0 {
		t.Errorf("%s: Lower: %d blocks, error %d", what, len(p.Blocks), e)
	}
}

func lookAtValid(t *testing.T, what string, p plan.Program, want bool) {
	t.Helper()
	if got := plan.Valid(p); got != want {
		t.Errorf("%s: Valid is %v, want %v: %s", what, got, want, brief(p))
	}
}

// lowered tells a good table's program.
func lowered(t *testing.T, x api.Table) plan.Program {
	t.Helper()
	p, e := plan.Lower(x)
	if e != api.OK {
		t.Fatalf("Lower(%s): error %d", brief(x), e)
	}
	return p
}
