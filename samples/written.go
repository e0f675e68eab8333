package samples

import (
	"iter"
	"slices"
	"strconv"
	"strings"

	"cartouche/api"
)

// Operations tells the names of the operations in chapter 13's order, from 1 on.
func Operations() []string {
	return strings.Fields("Tag Case Jump Go Read Sym Set Add Clear Msg Row Pair Keep ReadSet ReadAdd Has Put Val Sub Each Run Pairs Rest End PutVal")
}

// Kinds tells the names of the kinds in api's order, from 1 on.
func Kinds() []string {
	return strings.Fields("Bool Int32 Int64 Uint32 Uint64 Sint32 Sint64 Fixed32 Fixed64 Sfixed32 Sfixed64 Float Double String Bytes Enum Message")
}

// Steps reads steps as the document writes them: by ;, each an operation and its numbers, a kind by its name.
func Steps(text string) []api.Ins {
	var out []api.Ins
	operations := Operations()
	for words := range parts(text) {
		op := slices.Index(operations, words[0]) + 1
		if op == 0 {
			panic("no operation: " + words[0])
		}
		var n [4]int
		for i, w := range words[1:] {
			n[i] = written(w)
		}
		out = append(out, api.Ins{Op: op, A: n[0], B: n[1], C: n[2], D: n[3]})
	}
	return out
}

// Rows reads rows: by ;, each a tag and a place.
func Rows(text string) []api.Line {
	var out []api.Line
	for words := range parts(text) {
		out = append(out, api.Line{Tag: written(words[0]), To: written(words[1])})
	}
	return out
}

// Block reads a block's parts.
func Block(dec, enc, rows string) api.Block {
	return api.Block{Dec: Steps(dec), Enc: Steps(enc), Rows: Rows(rows)}
}

// parts goes through the words of each part that has some.
func parts(text string) iter.Seq[[]string] {
	return func(yield func([]string) bool) {
		for part := range strings.SplitSeq(text, ";") {
			if words := strings.Fields(part); len(words) > 0 && !yield(words) {
				return
			}
		}
	}
}

func written(word string) int {
	if kind := slices.Index(Kinds(), word); kind >= 0 {
		return kind + 1
	}
	n, err := strconv.Atoi(word)
	if err != nil {
		panic(err)
	}
	return n
}

// EveryStep is a valid program that has each operation, Jumps and rows among them. Its blocks: 0 and 3 enums, 1 and 2 messages.
func EveryStep() api.Program {
	return api.Program{Blocks: []api.Block{
		Block("", "", "0 0; 5 0; 2147483647 0"),
		Block(
			`Tag; Case 8 6; Read Enum; Sym 0; Set 1; Go 0; Jump 21; Read String; Clear 2; Clear 3; Add 2; Go 13; Jump 20; Msg 3 1 0; Msg 4 2 1; Msg 5 1 2; Row 6 Enum 4; Row 7 Int32 0; Pair 8 String Message 2; Pair 9 Bool Enum 3;
				Pair 10 Int64 Bytes 0; Keep; ReadSet Double 11; ReadAdd Enum 12; Go 25; Go 0`,
			`Has 1 3 Enum; Put 8; Val Enum; Has 2 5 0; Put 18; Sub 2; Each 26 Message 1; Each 32 Enum 3; Each 42 Bytes 0; Run 50 Enum; Run 58 Float; Pairs 66 String Message 2; Pairs 74 Bool Enum 0; Pairs 82 Sint32 Int32 0; Rest; PutVal 93 Float; End`,
			"8 13; 9 25; 10 14; 21 20; 4294967293 22"),
		Block("Tag; Go 0", "End", ""),
		Block("", "", "7 0"),
	}}
}
