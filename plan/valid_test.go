package plan_test

import (
	"fmt"
	"math"
	"slices"
	"strings"
	"testing"

	"cartouche/api"
	"cartouche/plan"
	"cartouche/samples"
)

// eachNumber goes through a step's numbers.
func eachNumber(look func(number func(*plan.Ins) *int)) {
	look(func(s *plan.Ins) *int { return &s.Op })
	look(func(s *plan.Ins) *int { return &s.A })
	look(func(s *plan.Ins) *int { return &s.B })
	look(func(s *plan.Ins) *int { return &s.C })
	look(func(s *plan.Ins) *int { return &s.D })
}

// changed looks at rich with one thing changed.
func changed(t *testing.T, what string, want bool, change func(b []plan.Block)) {
	t.Helper()
	p := rich()
	change(p.Blocks)
	lookAtValid(t, what, p, want)
}

// least is a program of a message that has these steps alone, a message without fields (1) and an enum (2).
func least(dec, enc, row string) plan.Program {
	return plan.Program{Blocks: []plan.Block{samples.Block(dec, enc, row), block("Tag; Go 0", "End"), {Rows: rows("0 0")}}}
}

// reading looks at a message whose Dec has a step between Tag, at place 0, and four others.
func reading(t *testing.T, want bool, l ...string) {
	t.Helper()
	for _, s := range l {
		lookAtValid(t, s, least("Tag; "+s+"; Keep; Keep; Keep; Go 0", "End", ""), want)
	}
}

// writing looks at a message whose Enc has a step ahead of three others.
func writing(t *testing.T, want bool, l ...string) {
	t.Helper()
	for _, s := range l {
		lookAtValid(t, s, least("Tag; Go 0", s+"; Rest; Rest; End", ""), want)
	}
}

// jumping looks at a message with a Jump at place 2 to place 3, of 5, and rows.
func jumping(t *testing.T, want bool, l ...string) {
	t.Helper()
	for _, s := range l {
		lookAtValid(t, "rows "+s, least("Tag; Keep; Jump 3; Keep; Go 0", "End", s), want)
	}
}

func TestP13_3Whole(t *testing.T) {
	lookAtValid(t, "nothing", plan.Program{}, true)
	lookAtValid(t, "no blocks", plan.Program{Blocks: []plan.Block{}}, true)
	lookAtValid(t, "rich", rich(), true)
	lookAtValid(t, "the least message", least("Tag; Go 0", "End", ""), true)
	lookAtValid(t, "a block of nothing", plan.Program{Blocks: make([]plan.Block, 1)}, false)
	lookAtValid(t, "a block of empty lists", plan.Program{Blocks: []plan.Block{{Dec: []plan.Ins{}, Enc: []plan.Ins{}, Rows: []plan.Line{}}}}, false)
	for i := range rich().Blocks {
		changed(t, "one block of nothing", false, func(b []plan.Block) { b[i] = plan.Block{} })
	}
	for kind, op := range operations {
		found := false
		for _, b := range rich().Blocks {
			found = found || slices.ContainsFunc(slices.Concat(b.Dec, b.Enc), func(s plan.Ins) bool { return s.Op == kind+1 })
		}
		if !found {
			t.Errorf("rich has no %s", op)
		}
	}
}

// TestP13_3Count has as many blocks as can be, and one more.
func TestP13_3Count(t *testing.T) {
	for _, b := range rich().Blocks[2:] {
		many := plan.Program{Blocks: slices.Repeat([]plan.Block{b}, api.MaxTypes)}
		lookAtValid(t, "as many as can be", many, true)
		many.Blocks[api.MaxTypes-1] = plan.Block{}
		lookAtValid(t, "the last one nothing", many, false)
		lookAtValid(t, "one too many", plan.Program{Blocks: slices.Repeat([]plan.Block{b}, api.MaxTypes+1)}, false)
	}
	whole := lowered(t, full())
	lookAtValid(t, "the greatest table's", whole, true)
	lookAtValid(t, "one more", plan.Program{Blocks: append(whole.Blocks, plan.Block{Rows: rows("0 0")})}, false)
}

func TestP13_3Enum(t *testing.T) {
	for text, want := range map[string]bool{
		"0 0": true, "3 0": true, "2147483647 0": true, "0 0; 1 0": true, "1 0; 2147483646 0; 2147483647 0": true, "": false,
		"-1 0": false, "2147483648 0": false, "0 0; 4294967296 0": false, "5 0; 0 0": false, "5 0; 5 0": false, "0 0; 2 0; 1 0": false, "0 0; 1 0; 1 0": false,
		"0 1": false, "0 -1": false, "0 0; 5 5": false, "-2147483648 0; 0 0": false,
	} {
		lookAtValid(t, "rows "+text, plan.Program{Blocks: []plan.Block{{Rows: rows(text)}}}, want)
	}
	var many []plan.Line
	for i := range api.MaxFields + 1 {
		many = append(many, plan.Line{Tag: 3 * i})
	}
	lookAtValid(t, "as many as can be", plan.Program{Blocks: []plan.Block{{Rows: many[1:]}}}, true)
	lookAtValid(t, "one too many", plan.Program{Blocks: []plan.Block{{Rows: many}}}, false)
	lookAtValid(t, "far off", plan.Program{Blocks: []plan.Block{{Rows: []plan.Line{{Tag: math.MinInt}, {Tag: math.MaxInt}}}}}, false)
	changed(t, "with Dec", false, func(b []plan.Block) { b[3].Dec = steps("Tag; Go 0") })
	changed(t, "with Enc", false, func(b []plan.Block) { b[3].Enc = steps("End") })
	changed(t, "with both", false, func(b []plan.Block) { b[3].Dec, b[3].Enc = steps("Tag; Go 0"), steps("End") })
}

// TestP13_3Unnamed gives each number that an operation does not name another value than 0.
func TestP13_3Unnamed(t *testing.T) {
	named := map[int]int{plan.Case: 2, plan.Jump: 1, plan.Go: 1, plan.Read: 1, plan.Sym: 1, plan.Set: 1, plan.Add: 1, plan.Clear: 1, plan.Msg: 3, plan.Row: 3, plan.Pair: 4, plan.ReadSet: 2, plan.ReadAdd: 2, plan.Has: 3, plan.Put: 1, plan.Val: 1, plan.Sub: 1, plan.Each: 3, plan.Run: 2, plan.Pairs: 4, plan.PutVal: 2}
	count := 0
	spoil := func(pick func(b []plan.Block) *plan.Ins) {
		op := pick(rich().Blocks).Op
		for i := named[op]; i < 4; i++ {
			for _, n := range []int{1, -1, 8, math.MinInt, math.MaxInt} {
				count++
				changed(t, fmt.Sprint("number ", i, " of ", operations[op-1]), false, func(b []plan.Block) {
					s := pick(b)
					*[]*int{&s.A, &s.B, &s.C, &s.D}[i] = n
				})
			}
		}
	}
	for i, b := range rich().Blocks {
		for at := range b.Dec {
			spoil(func(b []plan.Block) *plan.Ins { return &b[i].Dec[at] })
		}
		for at := range b.Enc {
			spoil(func(b []plan.Block) *plan.Ins { return &b[i].Enc[at] })
		}
	}
	if count < 300 {
		t.Errorf("%d were looked at", count)
	}
}

// TestP13_3Ends has Tag, Go and End at other places than theirs.
func TestP13_3Ends(t *testing.T) {
	for _, dec := range []string{"", "Tag", "Go 0", "Tag; Keep", "Keep; Go 0", "Tag; Tag; Go 0", "Tag; Keep; Tag; Go 0", "Tag; Go 0; Tag", "Tag; Go 0; Keep", "Read Bool; Tag; Go 0", "Go 0; Go 0", "Tag; Jump 0", "Tag; End", "Tag; Go 0; End"} {
		lookAtValid(t, "Dec "+dec, least(dec, "End", ""), false)
	}
	for _, dec := range []string{"Tag; Go 0", "Tag; Keep; Go 0", "Tag; Go 0; Go 0", "Tag; Go 2; Go 0"} {
		lookAtValid(t, "Dec "+dec, least(dec, "End", ""), true)
	}
	for _, enc := range []string{"", "Rest", "End; Rest", "End; End", "Rest; End; End", "End; Rest; End", "Put 8", "Tag; Go 0", "End; Go 0"} {
		lookAtValid(t, "Enc "+enc, least("Tag; Go 0", enc, ""), false)
	}
	for _, enc := range []string{"End", "Rest; End", "Rest; Rest; End", "Put 8; End"} {
		lookAtValid(t, "Enc "+enc, least("Tag; Go 0", enc, ""), true)
	}
	changed(t, "no Dec", false, func(b []plan.Block) { b[2].Dec = nil })
	changed(t, "no Enc", false, func(b []plan.Block) { b[2].Enc = nil })
	changed(t, "Dec of another one", true, func(b []plan.Block) { b[1].Dec, b[1].Rows = b[2].Dec, nil })
	changed(t, "Dec and Enc the other way round", false, func(b []plan.Block) { b[2].Dec, b[2].Enc = b[2].Enc, b[2].Dec })
}

// TestP13_3Operations has operations of the other sort, and those that are none.
func TestP13_3Operations(t *testing.T) {
	reading(t, false, "Has 1 3 0", "Has 1 3 Bool", "Put 8", "Val Bool", "Sub 1", "Each 8 Bool 0", "Run 10 Bool", "Pairs 10 Bool Bool 0", "Rest", "End", "PutVal 8 Bool")
	writing(t, false, "Tag", "Case 8 2", "Jump 2", "Go 0", "Go 2", "Read Bool", "Sym 2", "Set 1", "Add 1", "Clear 1", "Msg 1 1 0", "Row 1 Bool 0", "Pair 1 Bool Bool 0", "Keep", "ReadSet Bool 1", "ReadAdd Bool 1")
	for _, op := range []int{0, -1, 26, 27, 255, 256 + plan.Keep, 1<<32 + plan.Keep, 1<<32 + plan.Rest, math.MinInt, math.MaxInt} {
		for _, n := range []int{0, 1} {
			changed(t, fmt.Sprint("the operation ", op), false, func(b []plan.Block) {
				b[2].Dec = []plan.Ins{{Op: plan.Tag}, {Op: op, A: n}, {Op: plan.Go}}
			})
			changed(t, fmt.Sprint("the operation ", op), false, func(b []plan.Block) { b[2].Enc = []plan.Ins{{Op: op, A: n}, {Op: plan.End}} })
		}
	}
}

// TestP13_3Places has places of Case, Jump, Go and Has: at the step, ahead of it, behind it, at the last step and past it.
func TestP13_3Places(t *testing.T) {
	reading(t, true, "Case 8 2", "Case 8 3", "Case 8 5", "Go 0", "Go 2", "Go 5")
	reading(t, false, "Case 8 0", "Case 8 1", "Case 8 6", "Case 8 7", "Case 8 -1", "Case 8 9223372036854775807", "Case 8 -9223372036854775808", "Go 1", "Go 6", "Go -1", "Go 9223372036854775807", "Go -9223372036854775808")
	for _, a := range []string{"2", "3", "5"} {
		lookAtValid(t, "Jump "+a, least("Tag; Jump "+a+"; Keep; Keep; Keep; Go 0", "End", "8 2"), true)
	}
	for _, a := range []string{"0", "1", "6", "-1", "9223372036854775807"} {
		lookAtValid(t, "Jump "+a, least("Tag; Jump "+a+"; Keep; Keep; Keep; Go 0", "End", "8 2"), false)
	}
	lookAtValid(t, "the last Go, to 0", least("Tag; Keep; Go 0", "End", ""), true)
	lookAtValid(t, "the last Go, to itself", least("Tag; Keep; Go 2", "End", ""), false)
	lookAtValid(t, "the last Go, past the end", least("Tag; Keep; Go 3", "End", ""), false)
	lookAtValid(t, "the last Go, one back", least("Tag; Keep; Go 1", "End", ""), false)
	lookAtValid(t, "a Go ahead of the last one, back", least("Tag; Keep; Keep; Go 1; Go 0", "End", ""), false)
	lookAtValid(t, "a Go ahead of the last one, on", least("Tag; Keep; Keep; Go 4; Go 0", "End", ""), true)
	writing(t, true, "Has 1 1 0", "Has 1 2 0", "Has 1 3 0")
	writing(t, false, "Has 1 0 0", "Has 1 4 0", "Has 1 5 0", "Has 1 -1 0", "Has 1 9223372036854775807 0", "Has 1 -9223372036854775808 0")
	for b, want := range map[string]bool{"0": false, "1": false, "2": true, "3": true, "4": false} {
		lookAtValid(t, "Has at the place 1, to "+b, least("Tag; Go 0", "Rest; Has 1 "+b+" 0; Rest; End", ""), want)
	}
}

// TestP13_3Rows has rows of a message: there just if a Jump is, rising, behind each Jump.
func TestP13_3Rows(t *testing.T) {
	jumping(t, true, "8 3", "8 4", "8 3; 9 3", "8 4; 9 3; 10 4; 13 3", "16 3", "4294967293 4", "8 3; 18 4; 26 3")
	jumping(t, false, "", "8 2", "8 1", "8 0", "8 -1", "8 5", "8 6", "8 9223372036854775807", "8 -9223372036854775808", "8 3; 9 2", "8 5; 9 3", "9 3; 8 3", "8 3; 8 3", "8 3; 8 4", "8 3; 18 3; 16 3",
		"0 3", "1 3", "2 3", "5 3", "7 3", "11 3", "12 3", "14 3", "15 3", "-8 3", "4294967294 3", "4294967296 3", "8 3; 4294967301 3", "9223372036854775807 3", "-9223372036854775808 3")
	for _, row := range []string{"8 1", "8 2", "8 3"} {
		lookAtValid(t, "rows without a Jump", least("Tag; Keep; Keep; Go 0", "End", row), false)
		lookAtValid(t, "rows without a Jump, but a Case", least("Tag; Case 8 3; Keep; Go 0", "End", row), false)
	}
	lookAtValid(t, "neither", least("Tag; Keep; Keep; Go 0", "End", ""), true)
	for row, want := range map[string]bool{"8 1": false, "8 2": false, "8 3": false, "8 4": true, "8 5": true, "8 6": false, "8 5; 16 2": false, "8 4; 16 5": true} {
		lookAtValid(t, "two Jumps, rows "+row, least("Tag; Jump 2; Keep; Jump 5; Keep; Go 0", "End", row), want)
	}
	for row, want := range map[string]bool{"8 1": false, "8 2": true, "8 3": true, "8 4": false} {
		lookAtValid(t, "a Jump at the place 1, rows "+row, least("Tag; Jump 3; Keep; Go 0", "End", row), want)
	}
	var many []plan.Line
	for i := range 4 * api.MaxFields {
		many = append(many, plan.Line{Tag: 8 * (i + 1), To: 3})
	}
	p := least("Tag; Keep; Jump 3; Keep; Go 0", "End", "")
	p.Blocks[0].Rows = many
	lookAtValid(t, "more rows than fields can be", p, true)
}

// TestP13_3Fields has fields' numbers at the edges.
func TestP13_3Fields(t *testing.T) {
	for n, want := range map[string]bool{"1": true, "2": true, "536870911": true, "0": false, "-1": false, "536870912": false, "4294967297": false, "9223372036854775807": false, "-9223372036854775808": false} {
		for _, s := range []string{"Set #", "Add #", "Clear #", "Msg # 1 0", "Row # Bool 0", "Pair # Bool Bool 0", "ReadSet Bool #", "ReadAdd Bool #"} {
			reading(t, want, strings.ReplaceAll(s, "#", n))
		}
		writing(t, want, "Has "+n+" 1 0", "Has "+n+" 2 Enum")
	}
}

// TestP13_3Tags has each wire kind, and those that are none, of fields at the edges.
func TestP13_3Tags(t *testing.T) {
	for _, field := range []int{-1, 0, 1, 2, api.MaxNumber, api.MaxNumber + 1, 1 << 58, -1 << 58, 1<<60 - 1, -1 << 60} {
		for kind := range 8 {
			want := field >= 1 && field <= api.MaxNumber && (kind == api.Varint || kind == api.Fix64 || kind == api.Chunk || kind == api.Fix32)
			n := fmt.Sprint(field*8 + kind)
			reading(t, want, "Case "+n+" 2")
			writing(t, want, "Put "+n, "PutVal "+n+" Bool", "Each "+n+" Bool 0", "Run "+n+" Bool", "Pairs "+n+" Bool Bool 0")
			jumping(t, want, n+" 3")
		}
	}
}

// TestP13_3Kinds has each kind at each operation, and those that are none.
func TestP13_3Kinds(t *testing.T) {
	for _, kind := range []int{-1, 0, 1, 2, 3, 4, 5, 6, 7, 8, 9, 10, 11, 12, 13, 14, 15, 16, 17, 18, 19, 1<<32 + 1, math.MinInt, math.MaxInt} {
		n := fmt.Sprint(kind)
		single := kind >= api.Bool && kind <= api.Enum
		reading(t, single, "Read "+n, "ReadSet "+n+" 1", "ReadAdd "+n+" 1")
		writing(t, single, "Val "+n, "PutVal 8 "+n)
		writing(t, single || kind == 0, "Has 1 2 "+n)
		numeric := single && kind != api.String && kind != api.Bytes
		reading(t, numeric && kind != api.Enum, "Row 1 "+n+" 0")
		writing(t, numeric, "Run 10 "+n)
		key := slices.Contains(keyKinds(), kind)
		reading(t, key, "Pair 1 "+n+" Bool 0", "Pair 1 "+n+" Enum 2", "Pair 1 "+n+" Message 1")
		writing(t, key, "Pairs 10 "+n+" Bool 0", "Pairs 10 "+n+" Enum 2", "Pairs 10 "+n+" Message 1")
		for block := -1; block <= 3; block++ {
			want := single && kind != api.Enum && block == 0 || kind == api.Enum && block == 2 || kind == api.Message && (block == 0 || block == 1)
			at := fmt.Sprint(block)
			reading(t, want, "Pair 1 Bool "+n+" "+at)
			writing(t, want, "Each 8 "+n+" "+at, "Pairs 10 Bool "+n+" "+at)
		}
	}
}

// TestP13_3Blocks has blocks of the wrong sort, and those that are none: 0 and 1 are messages, 2 is an enum.
func TestP13_3Blocks(t *testing.T) {
	for _, block := range []int{-1, 0, 1, 2, 3, 4, 1 << 32, math.MinInt, math.MaxInt} {
		n, more := fmt.Sprint(block), fmt.Sprint(block+1)
		message, enum := block == 0 || block == 1, block == 2
		reading(t, enum, "Sym "+n, "Pair 1 Bool Enum "+n, "Row 1 Enum "+more)
		reading(t, message, "Msg 1 "+n+" 0", "Msg 1 "+n+" 1", "Msg 1 "+n+" 2", "Pair 1 Bool Message "+n)
		writing(t, enum, "Each 8 Enum "+n, "Pairs 10 Bool Enum "+n)
		writing(t, message, "Sub "+n, "Each 10 Message "+n, "Pairs 10 Bool Message "+n)
		reading(t, block+1 == 0, "Row 1 Bool "+more, "Row 1 Double "+more)
		reading(t, block == 0, "Pair 1 Bool Bool "+n, "Pair 1 Bool Bytes "+n)
		writing(t, block == 0, "Each 8 Bool "+n, "Each 10 Bytes "+n, "Pairs 10 Bool String "+n)
	}
	for c, want := range map[string]bool{"0": true, "1": true, "2": true, "3": false, "-1": false, "9223372036854775807": false, "-9223372036854775808": false} {
		reading(t, want, "Msg 1 1 "+c)
	}
	own := plan.Program{Blocks: []plan.Block{block("Tag; Msg 1 0 0; Go 0", "Put 10; Sub 0; End")}}
	lookAtValid(t, "a message that holds itself", own, true)
	own.Blocks[0].Dec[1].B = 1
	lookAtValid(t, "a message that holds one that is none", own, false)
}

// TestP13_3Each has each block of a program spoiled: all are looked at, wherever they stand.
func TestP13_3Each(t *testing.T) {
	p := lowered(t, full())
	for i := range p.Blocks {
		q := plan.Program{Blocks: slices.Clone(p.Blocks)}
		q.Blocks[i] = block("Tag; Keep; Go 0", "Rest; Rest")
		lookAtValid(t, fmt.Sprint("block ", i), q, false)
		q.Blocks[i] = block("Tag; Keep; Go 0", "Rest; End")
		lookAtValid(t, fmt.Sprint("block ", i), q, true)
	}
}
