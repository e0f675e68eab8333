package plan_test

import (
	"fmt"
	"math"
	"strconv"
	"testing"

	"cartouche/api"
	"cartouche/plan"
	"cartouche/samples"
)

// TestP13_1Numbers has the operations' numbers written out.
func TestP13_1Numbers(t *testing.T) {
	want := map[int]int{
		plan.Tag: 1, plan.Case: 2, plan.Jump: 3, plan.Go: 4, plan.Read: 5, plan.Sym: 6, plan.Set: 7, plan.Add: 8, plan.Clear: 9, plan.Msg: 10, plan.Row: 11, plan.Pair: 12, plan.Keep: 13,
		plan.ReadSet: 14, plan.ReadAdd: 15, plan.Has: 16, plan.Put: 17, plan.Val: 18, plan.Sub: 19, plan.Each: 20, plan.Run: 21, plan.Pairs: 22, plan.Rest: 23, plan.End: 24, plan.PutVal: 25,
	}
	for got, n := range want {
		if got != n {
			t.Errorf("the operation %s has the number %d, want %d", operations[n-1], got, n)
		}
	}
	if len(want) != len(operations) {
		t.Errorf("%d operations", len(want))
	}
	var _ api.Ins = plan.Ins{}
	var _ api.Line = plan.Line{}
	var _ api.Block = plan.Block{}
	var _ api.Program = plan.Program{}
}

func TestP13_1Examples(t *testing.T) {
	lookAtType(t, "M", em(), 1, block(
		"Tag; Case 8 5; Read Int32; Set 1; Go 0; Case 16 9; Read Uint32; Add 2; Go 0; Case 18 12; Row 2 Uint32 0; Go 0; Case 26 15; Msg 3 1 0; Go 0; Keep; Go 0",
		"Has 1 3 Int32; Put 8; Val Int32; Has 2 5 0; Run 18 Uint32; Has 3 8 0; Put 26; Sub 1; Rest; End"))
	lookAtType(t, "E", em(), 0, plan.Block{Rows: rows("0 0")})
	lookAtNoType(t, "M", em(), 9)
}

// TestP13_1Index has indices that are none, and those next to them.
func TestP13_1Index(t *testing.T) {
	for _, index := range []int{-1, -2, 2, 3, 128, math.MinInt, math.MaxInt, 1 << 32, 1<<32 + 1} {
		lookAtNoType(t, "two types", em(), index)
	}
	for _, index := range []int{-1, 0, 1} {
		lookAtNoType(t, "no types", api.Table{}, index)
	}
	empty := block("Tag; Keep; Go 0", "Rest; End")
	lookAtType(t, "one type", tableOf(messageOf("M")), 0, empty)
	lookAtNoType(t, "one type", tableOf(messageOf("M")), 1)
}

// TestP13_1Wrong has tables that are not good, each index of them.
func TestP13_1Wrong(t *testing.T) {
	for _, w := range wrongTables() {
		for index := -1; index <= len(w.Table.Types); index++ {
			lookAtNoType(t, w.What, w.Table, index)
		}
	}
	lookAtNoType(t, "M alone, m's Ref 1", tableOf(em().Types[1]), 0)
}

// TestP13_1Enum has symbols in any order, at the edges, and as many as there can be.
func TestP13_1Enum(t *testing.T) {
	lookAtType(t, "E", wide(), 0, plan.Block{Rows: rows("0 0; 5 0; 2147483647 0")})
	x := api.Type{Name: "E", Enum: true, Symbols: []api.Symbol{{Name: "Z"}, {Name: "A", Number: 9}, {Name: "B", Number: 1}, {Name: "C", Number: 8}, {Name: "D", Number: 2}}}
	lookAtType(t, "five", tableOf(messageOf("M"), x), 1, plan.Block{Rows: rows("0 0; 1 0; 2 0; 8 0; 9 0")})
	many := api.Type{Name: "E", Enum: true, Symbols: []api.Symbol{{Name: "Z"}}}
	want := []plan.Line{{}}
	for i := 1; i < api.MaxFields; i++ {
		many.Symbols = append(many.Symbols, api.Symbol{Name: "S" + strconv.Itoa(i), Number: 10 * (api.MaxFields - i)})
		want = append(want, plan.Line{Tag: 10 * i})
	}
	lookAtType(t, "as many as can be", tableOf(many), 0, plan.Block{Rows: want})
}

// single lowers the message that has a field of that kind and label alone: its number is 7, its enum 0, its message 1.
func single(t *testing.T, kind, label, key int, dec, enc string) {
	t.Helper()
	what := fmt.Sprintf("kind %d, label %d, key %d", kind, label, key)
	lookAtType(t, what, samples.Single(kind, label, key), samples.Around, block("Tag; "+dec+" Keep; Go 0", enc+" Rest; End"))
}

// tagOf tells the tag of the field 7 with a kind's wire kind.
func tagOf(kind int) string {
	switch kind {
	case api.Fixed64, api.Sfixed64, api.Double:
		return "57"
	case api.String, api.Bytes, api.Message:
		return "58"
	case api.Fixed32, api.Sfixed32, api.Float:
		return "61"
	}
	return "56"
}

// TestP13_1Scalars has each label with each kind of numbers, texts and bytes.
func TestP13_1Scalars(t *testing.T) {
	for kind := api.Bool; kind <= api.Bytes; kind++ {
		k, tag := kinds[kind-1], tagOf(kind)
		single(t, kind, api.Plain, 0, "Case "+tag+" 5; Read "+k+"; Set 7; Go 0;", "Has 7 3 "+k+"; Put "+tag+"; Val "+k+";")
		single(t, kind, api.Optional, 0, "Case "+tag+" 5; Read "+k+"; Set 7; Go 0;", "Has 7 3 0; Put "+tag+"; Val "+k+";")
		single(t, kind, api.Member, 0, "Case "+tag+" 6; Read "+k+"; Clear 7; Set 7; Go 0;", "Has 7 3 0; Put "+tag+"; Val "+k+";")
		for _, key := range keyKinds() {
			pair := kinds[key-1] + " " + k + " 0;"
			single(t, kind, api.Map, key, "Case 58 4; Pair 7 "+pair+" Go 0;", "Has 7 2 0; Pairs 58 "+pair)
		}
		if kind == api.String || kind == api.Bytes {
			single(t, kind, api.Repeated, 0, "Case 58 5; Read "+k+"; Add 7; Go 0;", "Has 7 2 0; Each 58 "+k+" 0;")
			continue
		}
		both := "Case " + tag + " 5; Read " + k + "; Add 7; Go 0; Case 58 8; Row 7 " + k + " 0; Go 0;"
		single(t, kind, api.Repeated, 0, both, "Has 7 2 0; Each "+tag+" "+k+" 0;")
		single(t, kind, api.Packed, 0, both, "Has 7 2 0; Run 58 "+k+";")
	}
}

func TestP13_1Enums(t *testing.T) {
	single(t, api.Enum, api.Plain, 0, "Case 56 6; Read Enum; Sym 0; Set 7; Go 0;", "Has 7 3 Enum; Put 56; Val Enum;")
	single(t, api.Enum, api.Optional, 0, "Case 56 6; Read Enum; Sym 0; Set 7; Go 0;", "Has 7 3 0; Put 56; Val Enum;")
	single(t, api.Enum, api.Repeated, 0, "Case 56 6; Read Enum; Sym 0; Add 7; Go 0; Case 58 9; Row 7 Enum 1; Go 0;", "Has 7 2 0; Each 56 Enum 0;")
	single(t, api.Enum, api.Packed, 0, "Case 56 6; Read Enum; Sym 0; Add 7; Go 0; Case 58 9; Row 7 Enum 1; Go 0;", "Has 7 2 0; Run 58 Enum;")
	single(t, api.Enum, api.Member, 0, "Case 56 7; Read Enum; Sym 0; Clear 7; Set 7; Go 0;", "Has 7 3 0; Put 56; Val Enum;")
	for _, key := range keyKinds() {
		k := kinds[key-1]
		single(t, api.Enum, api.Map, key, "Case 58 4; Pair 7 "+k+" Enum 0; Go 0;", "Has 7 2 0; Pairs 58 "+k+" Enum 0;")
		single(t, api.Message, api.Map, key, "Case 58 4; Pair 7 "+k+" Message 1; Go 0;", "Has 7 2 0; Pairs 58 "+k+" Message 1;")
	}
}

func TestP13_1Messages(t *testing.T) {
	single(t, api.Message, api.Optional, 0, "Case 58 4; Msg 7 1 0; Go 0;", "Has 7 3 0; Put 58; Sub 1;")
	single(t, api.Message, api.Repeated, 0, "Case 58 4; Msg 7 1 1; Go 0;", "Has 7 2 0; Each 58 Message 1;")
	single(t, api.Message, api.Member, 0, "Case 58 5; Clear 7; Msg 7 1 2; Go 0;", "Has 7 3 0; Put 58; Sub 1;")
}

// refs is a message of which each field is of another type than 0: 1 E, 2 M, 3 F.
func refs() api.Table {
	m := messageOf("M",
		api.FieldType{Name: "a", Number: 1, Kind: api.Enum, Ref: 3},
		api.FieldType{Name: "b", Number: 2, Kind: api.Enum, Ref: 1, Label: api.Packed},
		api.FieldType{Name: "c", Number: 3, Kind: api.Enum, Ref: 3, Label: api.Repeated},
		api.FieldType{Name: "d", Number: 4, Kind: api.Enum, Ref: 1, Label: api.Map, Key: api.Bool},
		api.FieldType{Name: "e", Number: 5, Kind: api.Enum, Ref: 3, Label: api.Member},
		api.FieldType{Name: "f", Number: 6, Kind: api.Message, Ref: 2, Label: api.Repeated})
	m.Oneofs = []string{"o"}
	symbols := []api.Symbol{{Name: "A"}}
	return tableOf(messageOf("L"), api.Type{Name: "E", Enum: true, Symbols: symbols}, m, api.Type{Name: "F", Enum: true, Symbols: symbols})
}

func TestP13_1Refs(t *testing.T) {
	lookAtType(t, "M", refs(), 2, block(
		`Tag; Case 8 6; Read Enum; Sym 3; Set 1; Go 0; Case 16 11; Read Enum; Sym 1; Add 2; Go 0; Case 18 14; Row 2 Enum 2; Go 0; Case 24 19; Read Enum; Sym 3; Add 3; Go 0; Case 26 22; Row 3 Enum 4; Go 0;
		Case 34 25; Pair 4 Bool Enum 1; Go 0; Case 40 31; Read Enum; Sym 3; Clear 5; Set 5; Go 0; Case 50 34; Msg 6 2 1; Go 0; Keep; Go 0`,
		`Has 1 3 Enum; Put 8; Val Enum; Has 2 5 0; Run 18 Enum; Has 3 7 0; Each 24 Enum 3; Has 4 9 0; Pairs 34 Bool Enum 1; Has 5 12 0; Put 40; Val Enum; Has 6 14 0; Each 50 Message 2; Rest; End`))
}

// TestP13_1Wide has each label in one message, and two oneofs whose members stand between one another.
func TestP13_1Wide(t *testing.T) {
	lookAtType(t, "W", wide(), 1, block(
		`Tag; Case 8 5; Read Sint64; Set 1; Go 0; Case 18 9; Read String; Set 2; Go 0; Case 24 14; Read Enum; Sym 0; Set 3; Go 0; Case 32 18; Read Bool; Set 4; Go 0; Case 42 21; Msg 5 2 0; Go 0;
		Case 53 25; Read Fixed32; Add 6; Go 0; Case 50 28; Row 6 Fixed32 0; Go 0; Case 57 32; Read Double; Add 7; Go 0; Case 58 35; Row 7 Double 0; Go 0; Case 66 38; Msg 8 1 1; Go 0;
		Case 74 41; Pair 9 String Message 2; Go 0; Case 82 44; Pair 10 Int32 Enum 0; Go 0; Case 88 50; Read Int32; Clear 11; Clear 13; Set 11; Go 0; Case 98 55; Clear 12; Clear 14; Msg 12 1 2; Go 0;
		Case 106 60; Clear 11; Clear 13; Msg 13 2 2; Go 0; Case 114 66; Read Bytes; Clear 12; Clear 14; Set 14; Go 0; Case 4294967290 70; Read Bytes; Set 536870911; Go 0; Keep; Go 0`,
		`Has 1 3 Sint64; Put 8; Val Sint64; Has 2 6 String; Put 18; Val String; Has 3 9 Enum; Put 24; Val Enum; Has 4 12 0; Put 32; Val Bool; Has 5 15 0; Put 42; Sub 2; Has 6 17 0; Each 53 Fixed32 0;
		Has 7 19 0; Run 58 Double; Has 8 21 0; Each 66 Message 1; Has 9 23 0; Pairs 74 String Message 2; Has 10 25 0; Pairs 82 Int32 Enum 0; Has 11 28 0; Put 88; Val Int32; Has 12 31 0; Put 98; Sub 1;
		Has 13 34 0; Put 106; Sub 2; Has 14 37 0; Put 114; Val Bytes; Has 536870911 40 Bytes; Put 4294967290; Val Bytes; Rest; End`))
	lookAtType(t, "V", wide(), 2, block(
		"Tag; Case 21 5; Read Float; Set 2; Go 0; Case 42 8; Msg 5 1 0; Go 0; Keep; Go 0",
		"Has 2 3 Float; Put 21; Val Float; Has 5 6 0; Put 42; Sub 1; Rest; End"))
}

// TestP13_1None has a message without fields, with and without ranges.
func TestP13_1None(t *testing.T) {
	want := block("Tag; Keep; Go 0", "Rest; End")
	lookAtType(t, "nothing", tableOf(messageOf("M")), 0, want)
	lookAtType(t, "ranges", tableOf(api.Type{Name: "M", Reserved: []api.Range{{Low: 1, High: api.MaxNumber}}}), 0, want)
	lookAtType(t, "within another one", tableOf(messageOf("M"), messageOf("M.N"), messageOf("M.N.O")), 2, want)
}

// TestP13_1Last has fields at the greatest numbers: their tags are above 2^32 - 9.
func TestP13_1Last(t *testing.T) {
	x := tableOf(messageOf("M",
		api.FieldType{Name: "a", Number: api.MaxNumber - 1, Kind: api.Sfixed64, Label: api.Packed},
		api.FieldType{Name: "b", Number: api.MaxNumber, Kind: api.Sfixed32, Label: api.Repeated}))
	lookAtType(t, "M", x, 0, block(
		"Tag; Case 4294967281 5; Read Sfixed64; Add 536870910; Go 0; Case 4294967282 8; Row 536870910 Sfixed64 0; Go 0; Case 4294967293 12; Read Sfixed32; Add 536870911; Go 0; Case 4294967290 15; Row 536870911 Sfixed32 0; Go 0; Keep; Go 0",
		"Has 536870910 2 0; Run 4294967282 Sfixed64; Has 536870911 4 0; Each 4294967293 Sfixed32 0; Rest; End"))
}

// TestP13_1Members has oneofs with as many members as can be: each clears all.
func TestP13_1Members(t *testing.T) {
	x := messageOf("M")
	x.Oneofs = []string{"odd", "even"}
	for i := range api.MaxFields {
		x.Fields = append(x.Fields, api.FieldType{Name: "f" + strconv.Itoa(i), Number: i + 1, Kind: api.Bool, Label: api.Member, Oneof: i % 2})
	}
	b, e := plan.LowerType(tableOf(x), 0)
	half := api.MaxFields / 2
	if each := half + 4; e != api.OK || len(b.Dec) != api.MaxFields*each+3 || len(b.Enc) != 3*api.MaxFields+2 {
		t.Fatalf("%d and %d steps, error %d", len(b.Dec), len(b.Enc), e)
	}
	for i := range api.MaxFields {
		at := 1 + i*(half+4)
		part := b.Dec[at : at+half+4]
		want := []plan.Ins{{Op: plan.Case, A: 8 * (i + 1), B: at + half + 4}, {Op: plan.Read, A: api.Bool}}
		for n := 1 + i%2; n <= api.MaxFields; n += 2 {
			want = append(want, plan.Ins{Op: plan.Clear, A: n})
		}
		want = append(want, plan.Ins{Op: plan.Set, A: i + 1}, plan.Ins{Op: plan.Go})
		if told(plan.Block{Dec: part}) != told(plan.Block{Dec: want}) {
			t.Errorf("member %d: %s", i, brief(part))
		}
	}
}
