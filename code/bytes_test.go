package code_test

import (
	"bytes"
	"math"
	"slices"
	"testing"

	"cartouche/api"
	"cartouche/plan"
)

// least is a program of a message that has these steps alone, a message without fields (1) and an enum (2).
func least(dec, enc, row string) plan.Program {
	return of(block(dec, enc, row), block("Tag; Go 0", "End", ""), plan.Block{Rows: rows("0 0")})
}

// leastBytes are those of such a program: of the three counts of its first block, and of what stands in it.
func leastBytes(dec, enc, row byte, within ...byte) []byte {
	return slices.Concat([]byte{67, 84, 3, dec, enc, row}, within, []byte{2, 1, 0, 1, 4, 0, 24, 0, 0, 1, 0, 0})
}

// single is a step with its bytes and its words in a text, by hand.
type single struct {
	step  string
	bytes []byte
	words string
}

// readSteps has each operation of Dec but Tag: it stands at place 1, the last one at place 2. The blocks are least's.
func readSteps() []single {
	return []single{
		{"Case 8 2", []byte{2, 8, 2}, "case 8 2"},
		{"Case 4294967293 2", []byte{2, 253, 255, 255, 255, 15, 2}, "case 4294967293 2"},
		{"Go 0", []byte{4, 0}, "go 0"},
		{"Go 2", []byte{4, 2}, "go 2"},
		{"Read Bool", []byte{5, 1}, "read 1"},
		{"Read Enum", []byte{5, 16}, "read 16"},
		{"Sym 2", []byte{6, 2}, "sym 2"},
		{"Set 1", []byte{7, 1}, "set 1"},
		{"Set 127", []byte{7, 127}, "set 127"},
		{"Add 128", []byte{8, 128, 1}, "add 128"},
		{"Add 16383", []byte{8, 255, 127}, "add 16383"},
		{"Add 16384", []byte{8, 128, 128, 1}, "add 16384"},
		{"Clear 536870911", []byte{9, 255, 255, 255, 255, 1}, "clear 536870911"},
		{"Msg 3 1 0", []byte{10, 3, 1, 0}, "msg 3 1 0"},
		{"Msg 300 0 2", []byte{10, 172, 2, 0, 2}, "msg 300 0 2"},
		{"Row 7 Int32 0", []byte{11, 7, 2, 0}, "row 7 2 0"},
		{"Row 6 Enum 3", []byte{11, 6, 16, 3}, "row 6 16 3"},
		{"Pair 8 String Message 1", []byte{12, 8, 14, 17, 1}, "pair 8 14 17 1"},
		{"Pair 9 Bool Double 0", []byte{12, 9, 1, 13, 0}, "pair 9 1 13 0"},
		{"Pair 9 Sfixed64 Enum 2", []byte{12, 9, 11, 16, 2}, "pair 9 11 16 2"},
		{"Keep", []byte{13}, "keep"},
		{"ReadSet Double 11", []byte{14, 13, 11}, "readset 13 11"},
		{"ReadAdd Bytes 200", []byte{15, 15, 200, 1}, "readadd 15 200"},
	}
}

// writeSteps has each operation of Enc but End: it stands at place 0, End at place 1.
func writeSteps() []single {
	return []single{
		{"Has 1 1 0", []byte{16, 1, 1, 0}, "has 1 1 0"},
		{"Has 536870911 1 Enum", []byte{16, 255, 255, 255, 255, 1, 1, 16}, "has 536870911 1 16"},
		{"Put 8", []byte{17, 8}, "put 8"},
		{"Put 133", []byte{17, 133, 1}, "put 133"},
		{"Val Enum", []byte{18, 16}, "val 16"},
		{"Sub 1", []byte{19, 1}, "sub 1"},
		{"Sub 0", []byte{19, 0}, "sub 0"},
		{"Each 32 Enum 2", []byte{20, 32, 16, 2}, "each 32 16 2"},
		{"Each 1026 Bytes 0", []byte{20, 130, 8, 15, 0}, "each 1026 15 0"},
		{"Run 50 Float", []byte{21, 50, 12}, "run 50 12"},
		{"Pairs 66 String Message 1", []byte{22, 66, 14, 17, 1}, "pairs 66 14 17 1"},
		{"Pairs 82 Sint32 Int32 0", []byte{22, 82, 6, 2, 0}, "pairs 82 6 2 0"},
		{"Rest", []byte{23}, "rest"},
		{"PutVal 93 Float", []byte{25, 93, 12}, "putval 93 12"},
	}
}

// lookAtBoth sees that a program has these bytes, and their sum.
func lookAtBoth(t *testing.T, what string, p plan.Program, want []byte) {
	t.Helper()
	lookAtBytes(t, what, p, want)
	lookAtSum(t, what, p, want)
}

// TestP16_1Steps has each operation with just the numbers that it names.
func TestP16_1Steps(t *testing.T) {
	seen := map[byte]bool{1: true, 3: true, 24: true} // Tag, End: in each program; Jump: below
	for _, s := range readSteps() {
		seen[s.bytes[0]] = true
		lookAtBoth(t, s.step, least("Tag; "+s.step+"; Go 0", "End", ""), leastBytes(3, 1, 0, slices.Concat([]byte{1}, s.bytes, []byte{4, 0, 24})...))
	}
	for _, s := range writeSteps() {
		seen[s.bytes[0]] = true
		lookAtBoth(t, s.step, least("Tag; Go 0", s.step+"; End", ""), leastBytes(2, 2, 0, slices.Concat([]byte{1, 4, 0}, s.bytes, []byte{24})...))
	}
	lookAtBoth(t, "Jump", least("Tag; Jump 2; Go 0", "End", "8 2"), leastBytes(3, 1, 1, 1, 3, 2, 4, 0, 24, 8, 2))
	if len(seen) != plan.PutVal {
		t.Errorf("%d operations", len(seen))
	}
}

func TestP16_1Rows(t *testing.T) {
	lookAtBoth(t, "E", enum(), []byte{67, 84, 1, 0, 0, 1, 0, 0})
	lookAtBoth(t, "symbols", of(plan.Block{Rows: rows("0 0; 1 0; 127 0; 128 0; 2147483647 0")}), []byte{67, 84, 1, 0, 0, 5, 0, 0, 1, 0, 127, 0, 128, 1, 0, 255, 255, 255, 255, 7, 0})
	lookAtBoth(t, "a message's", least("Tag; Jump 3; Keep; Go 0", "End", "8 2; 133 3; 4294967293 2"), leastBytes(4, 1, 3, 1, 3, 3, 13, 4, 0, 24, 8, 2, 133, 1, 3, 253, 255, 255, 255, 15, 2))
}

// TestP16_1Blocks has no block, and several.
func TestP16_1Blocks(t *testing.T) {
	lookAtBoth(t, "none", plan.Program{}, []byte{67, 84, 0})
	lookAtBoth(t, "none, not nil", of([]plan.Block{}...), []byte{67, 84, 0})
	lookAtBoth(t, "a message without fields", of(block("Tag; Go 0", "End", "")), []byte{67, 84, 1, 2, 1, 0, 1, 4, 0, 24})
	lookAtBoth(t, "two enums", of(plan.Block{Rows: rows("3 0")}, plan.Block{Rows: rows("0 0")}), []byte{67, 84, 2, 0, 0, 1, 3, 0, 0, 0, 1, 0, 0})
	lookAtBoth(t, "an enum, a message", of(plan.Block{Rows: rows("3 0")}, block("Tag; Go 0", "Rest; End", "")), []byte{67, 84, 2, 0, 0, 1, 3, 0, 2, 2, 0, 1, 4, 0, 23, 24})
	lookAtBoth(t, "a message, an enum", of(block("Tag; Go 0", "Rest; End", ""), plan.Block{Rows: rows("3 0")}), []byte{67, 84, 2, 2, 2, 0, 1, 4, 0, 23, 24, 0, 0, 1, 3, 0})
	most := of(slices.Repeat(enum().Blocks, api.MaxTypes)...)
	lookAtBoth(t, "as many as can be", most, slices.Concat([]byte{67, 84, 128, 1}, bytes.Repeat([]byte{0, 0, 1, 0, 0}, api.MaxTypes)))
}

// TestP16_1Long has so many steps and rows that their counts have two bytes.
func TestP16_1Long(t *testing.T) {
	b := block("Tag; Jump 2", "", "")
	want := []byte{67, 84, 1, 131, 1, 129, 1, 130, 1, 1, 3, 2}
	for range 128 {
		b.Dec, b.Enc = append(b.Dec, plan.Ins{Op: plan.Keep}), append(b.Enc, plan.Ins{Op: plan.Rest})
	}
	b.Dec, b.Enc = append(b.Dec, plan.Ins{Op: plan.Go}), append(b.Enc, plan.Ins{Op: plan.End})
	want = slices.Concat(want, bytes.Repeat([]byte{13}, 128), []byte{4, 0}, bytes.Repeat([]byte{23}, 128), []byte{24})
	for i := range 130 {
		b.Rows = append(b.Rows, plan.Line{Tag: 8 * (i + 1), To: 2})
	}
	for i := range b.Rows {
		tag := []byte{byte(8 * (i + 1))}
		if n := 8 * (i + 1); n > 127 {
			tag = []byte{byte(n%128 + 128), byte(n / 128)}
		}
		want = append(append(want, tag...), 2)
	}
	lookAtBoth(t, "long lists", of(b), want)
}

// TestP16_1Lowered has chapter 13's M, and chapter 14's.
func TestP16_1Lowered(t *testing.T) {
	p := lowered(t, em())
	lookAtBoth(t, "M", p, []byte{67, 84, 2, 0, 0, 1, 0, 0, 17, 10, 0,
		1, 2, 8, 5, 5, 2, 7, 1, 4, 0, 2, 16, 9, 5, 4, 8, 2, 4, 0, 2, 18, 12, 11, 2, 4, 0, 4, 0, 2, 26, 15, 10, 3, 1, 0, 4, 0, 13, 4, 0,
		16, 1, 3, 2, 17, 8, 18, 2, 16, 2, 5, 0, 21, 18, 4, 16, 3, 8, 0, 17, 26, 19, 1, 23, 24})
	lookAtBoth(t, "M optimised", better(t, p), []byte{67, 84, 2, 0, 0, 1, 0, 0, 12, 9, 4,
		1, 3, 10, 14, 2, 1, 4, 0, 15, 4, 2, 4, 0, 11, 2, 4, 0, 4, 0, 10, 3, 1, 0, 4, 0, 13, 4, 0,
		16, 1, 2, 2, 25, 8, 2, 16, 2, 4, 0, 21, 18, 4, 16, 3, 7, 0, 17, 26, 19, 1, 23, 24,
		8, 2, 16, 4, 18, 6, 26, 8})
}

// changed tells the program of each operation with something changed.
func changed(change func(b []plan.Block)) plan.Program {
	p := every()
	change(p.Blocks)
	return p
}

// notValid tells programs that are not valid, each in its own way, but could be written.
func notValid() map[string]plan.Program {
	return map[string]plan.Program{
		"a block of nothing":           of(plan.Block{}),
		"a block of nothing, behind":   of(enum().Blocks[0], plan.Block{}),
		"too many blocks":              of(slices.Repeat(enum().Blocks, api.MaxTypes+1)...),
		"a symbol below 0":             of(plan.Block{Rows: rows("-1 0")}),
		"a symbol that is too great":   of(plan.Block{Rows: rows("2147483648 0")}),
		"a symbol's To":                of(plan.Block{Rows: rows("0 1")}),
		"symbols that fall":            of(plan.Block{Rows: rows("1 0; 0 0")}),
		"a symbol twice":               of(plan.Block{Rows: rows("1 0; 1 0")}),
		"Dec alone":                    of(block("Tag; Go 0", "", "")),
		"Enc alone":                    of(block("", "End", "")),
		"no Tag":                       of(block("Keep; Go 0", "End", "")),
		"two Tags":                     of(block("Tag; Tag; Go 0", "End", "")),
		"no Go at the end":             of(block("Tag; Keep", "End", "")),
		"no End at the end":            of(block("Tag; Go 0", "Rest", "")),
		"End twice":                    of(block("Tag; Go 0", "End; End", "")),
		"an Enc operation in Dec":      of(block("Tag; Rest; Go 0", "End", "")),
		"a Dec operation in Enc":       of(block("Tag; Go 0", "Keep; End", "")),
		"rows without a Jump":          of(block("Tag; Go 0", "End", "8 1")),
		"a Jump without rows":          of(block("Tag; Jump 2; Go 0", "End", "")),
		"a place past the end":         of(block("Tag; Go 2", "End", "")),
		"a field 0":                    changed(func(b []plan.Block) { b[1].Dec[8].A = 0 }),
		"a field that is too great":    changed(func(b []plan.Block) { b[1].Dec[8].A = api.MaxNumber + 1 }),
		"a field 2^32 further":         changed(func(b []plan.Block) { b[1].Dec[8].A += 1 << 32 }),
		"a number far below 0":         changed(func(b []plan.Block) { b[1].Dec[8].A = math.MinInt }),
		"a number far off":             changed(func(b []plan.Block) { b[1].Dec[8].A = math.MaxInt }),
		"a kind that there is not":     changed(func(b []plan.Block) { b[1].Dec[2].A = api.Message }),
		"a block that there is not":    changed(func(b []plan.Block) { b[1].Dec[13].B = 4 }),
		"a block of the wrong sort":    changed(func(b []plan.Block) { b[1].Dec[13].B = 0 }),
		"a wire kind that there isn't": changed(func(b []plan.Block) { b[1].Rows[0].Tag = 11 }),
	}
}

// notWritten tells programs that have more than their bytes and their text would tell.
func notWritten() map[string]plan.Program {
	return map[string]plan.Program{
		"an operation 0":             changed(func(b []plan.Block) { b[1].Dec[8].Op = 0 }),
		"an operation below 0":       changed(func(b []plan.Block) { b[1].Dec[8].Op = -1 }),
		"an operation past the last": changed(func(b []plan.Block) { b[1].Enc[14].Op = plan.PutVal + 1 }),
		"an operation 256 further":   changed(func(b []plan.Block) { b[1].Dec[8].Op += 256 }),
		"A of Tag":                   changed(func(b []plan.Block) { b[1].Dec[0].A = 1 }),
		"B of Set":                   changed(func(b []plan.Block) { b[1].Dec[4].B = 1 }),
		"C of Case":                  changed(func(b []plan.Block) { b[1].Dec[1].C = 1 }),
		"D of Msg":                   changed(func(b []plan.Block) { b[1].Dec[13].D = 1 }),
		"D of Has":                   changed(func(b []plan.Block) { b[1].Enc[0].D = -1 }),
		"A of End":                   changed(func(b []plan.Block) { b[2].Enc[0].A = 1 }),
	}
}

// TestP16_1NotValid has programs that are not valid, of each call that takes one; and their bytes and texts as they would be.
func TestP16_1NotValid(t *testing.T) {
	for what, p := range notValid() {
		lookAtNoProgram(t, what, p)
		lookAtNoBytes(t, what, joined(pieces(p)))
		lookAtNoText(t, what, lines(linesAgain(p)...))
	}
	for what, p := range notWritten() {
		lookAtNoProgram(t, what, p)
	}
}

// TestP16_1Operations has bytes with each operation that there is not.
func TestP16_1Operations(t *testing.T) {
	for op := range 256 {
		if op == 0 || op > plan.PutVal {
			lookAtNoBytes(t, "in Dec", []byte{67, 84, 1, 3, 1, 0, 1, byte(op), 4, 0, 24})
			lookAtNoBytes(t, "in Enc", []byte{67, 84, 1, 2, 2, 0, 1, 4, 0, byte(op), 24})
			lookAtNoBytes(t, "the last one", []byte{67, 84, 1, 2, 1, 0, 1, 4, 0, byte(op)})
		}
	}
	lookAtNoBytes(t, "Keep as a varint of two bytes", []byte{67, 84, 1, 3, 1, 0, 1, 141, 0, 4, 0, 24})
	lookAtBytes(t, "Keep", of(block("Tag; Keep; Go 0", "End", "")), []byte{67, 84, 1, 3, 1, 0, 1, 13, 4, 0, 24})
}

// someWritten tells programs of which the bytes and the texts are spoiled.
func someWritten(t *testing.T) []plan.Program {
	return []plan.Program{{}, enum(), every(), lowered(t, em()), better(t, lowered(t, wide())), of(slices.Repeat(enum().Blocks, api.MaxTypes)...)}
}

// TestP16_1Ends has bytes that lack their last ones, and that have one more.
func TestP16_1Ends(t *testing.T) {
	for _, p := range someWritten(t) {
		b := joined(pieces(p))
		for count := range b {
			lookAtNoBytes(t, "a beginning", b[:count])
		}
		for c := range 256 {
			lookAtNoBytes(t, "one more", append(bytes.Clone(b), byte(c)))
		}
		lookAtNoBytes(t, "twice", append(bytes.Clone(b), b...))
		for count := 1; count < len(b); count++ {
			lookAtNoBytes(t, "an end", b[count:])
		}
	}
	lookAtNoBytes(t, "nothing", nil)
	lookAtNoBytes(t, "nothing", []byte{})
}

// TestP16_1Mark has other bytes for the first two.
func TestP16_1Mark(t *testing.T) {
	for _, p := range []plan.Program{{}, enum(), every()} {
		b := joined(pieces(p))
		for at, c := range []byte{'C', 'T'} {
			for other := range 256 {
				if spoiled := bytes.Clone(b); byte(other) != c {
					spoiled[at] = byte(other)
					lookAtNoBytes(t, "another mark", spoiled)
				}
			}
		}
		lookAtNoBytes(t, "no mark", b[2:])
		lookAtNoBytes(t, "half a mark", b[1:])
		lookAtNoBytes(t, "the mark the other way round", append([]byte("TC"), b[2:]...))
		lookAtNoBytes(t, "the mark twice", append([]byte("CT"), b...))
	}
}

// TestP16_1Varints has each varint in more bytes than it need have, up to the ten bytes that a varint may have, and more.
func TestP16_1Varints(t *testing.T) {
	for _, p := range someWritten(t)[:5] {
		l := pieces(p)
		for at, x := range l {
			if len(x.more) > 0 {
				continue
			}
			for more := 1; more <= 10; more++ {
				long := x.laid()
				for range more {
					long[len(long)-1] |= 128
					long = append(long, 0)
				}
				spoiled := slices.Clone(l)
				spoiled[at] = piece{more: long}
				lookAtNoBytes(t, "a longer varint", joined(spoiled))
			}
			for _, long := range [][]byte{{255, 255, 255, 255, 255, 255, 255, 255, 255, 1}, {255, 255, 255, 255, 255, 255, 255, 255, 255, 2}, {255, 255, 255, 255, 255, 255, 255, 255, 127}, {128, 128, 128, 128, 128, 128, 128, 128, 128, 1}, {128, 128, 128, 128, 128, 128, 128, 128, 128, 128, 1}} {
				spoiled := slices.Clone(l)
				spoiled[at] = piece{more: long}
				lookAtNoBytes(t, "a great varint, or one that is none", joined(spoiled))
			}
		}
	}
}

// TestP16_1Counts has counts that are not those of what follows.
func TestP16_1Counts(t *testing.T) {
	for what, b := range map[string][]byte{
		"a block less than there is":    {67, 84, 0, 0, 0, 1, 0, 0},
		"a block more than there is":    {67, 84, 2, 0, 0, 1, 0, 0},
		"a row less":                    {67, 84, 1, 0, 0, 0, 0, 0},
		"a row more":                    {67, 84, 1, 0, 0, 2, 0, 0},
		"many rows":                     {67, 84, 1, 0, 0, 255, 255, 255, 255, 255, 255, 255, 255, 255, 1, 0, 0},
		"many steps":                    {67, 84, 1, 255, 255, 255, 255, 255, 255, 255, 255, 255, 1, 0, 0, 1, 4, 0, 24},
		"many steps of Enc":             {67, 84, 1, 2, 255, 255, 255, 255, 255, 255, 255, 255, 127, 0, 1, 4, 0, 24},
		"many blocks":                   {67, 84, 255, 255, 255, 255, 255, 255, 255, 255, 127, 0, 0, 1, 0, 0},
		"a step of Dec in Enc":          {67, 84, 1, 1, 2, 0, 1, 4, 0, 24},
		"a step of Enc in Dec":          {67, 84, 1, 3, 0, 0, 1, 4, 0, 24},
		"a step less":                   {67, 84, 1, 3, 1, 0, 1, 4, 0, 24},
		"a number less than it names":   {67, 84, 1, 2, 1, 0, 1, 4, 24},
		"a number more than it names":   {67, 84, 1, 2, 1, 0, 1, 4, 0, 0, 24},
		"all four numbers of each step": {67, 84, 1, 2, 1, 0, 1, 0, 0, 0, 0, 4, 0, 0, 0, 0, 24, 0, 0, 0, 0},
	} {
		lookAtNoBytes(t, what, b)
	}
}
