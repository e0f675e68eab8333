package table_test

import (
	"fmt"
	"math"
	"slices"
	"strings"
	"testing"

	"cartouche/api"
	"cartouche/table"
)

func TestP7_1Find(t *testing.T) {
	for i, x := range many().Types {
		lookAt(t, x.Name, find(many(), x.Name), answer{number: i})
	}
	for _, s := range []string{"", "N", "F", "N.F", "e", "M.", ".M", "M.N.", "m", "plain", "one", "Z", "M N", "M.N.F.Z", "E ", strings.Repeat("M", 100000)} {
		lookAt(t, s, find(many(), s), answer{e: api.ErrNone})
	}
	for _, s := range []string{"", "M"} {
		lookAt(t, "in no types", find(api.Table{}, s), answer{e: api.ErrNone})
	}
	full := tableOf(messages(api.MaxTypes)...)
	for i := range full.Types {
		lookAt(t, "of MaxTypes", find(full, fmt.Sprint("M", i)), answer{number: i})
	}
	lookAt(t, "of one type too many", find(tableOf(messages(api.MaxTypes+1)...), "M0"), answer{e: api.ErrArg})
}

func TestP7_2Field(t *testing.T) {
	for index, x := range many().Types {
		if x.Enum {
			continue
		}
		known := map[int]api.FieldType{}
		for _, f := range x.Fields {
			known[f.Number] = f
			lookAt(t, f.Name, named(many(), index, f.Name), answer{field: f})
		}
		numbers := []int{math.MinInt, -1 << 32, -5, api.MaxNumber - 1, api.MaxNumber, api.MaxNumber + 1, 1 << 32, 1<<32 + 1, math.MaxInt}
		for number := -3; number < 200; number++ {
			numbers = append(numbers, number)
		}
		for _, number := range numbers {
			want := answer{field: known[number]}
			if want.field.Number == 0 {
				want.e = api.ErrNone
			}
			lookAt(t, fmt.Sprintf("Field(%s, %d)", x.Name, number), field(many(), index, number), want)
		}
	}
	for _, s := range []string{"", "Plain", "plai", "plains", "plain ", "one", "two", "M", "k1", "1"} {
		lookAt(t, "Named "+s, named(many(), 1, s), answer{e: api.ErrNone})
	}
	for _, s := range []string{"", "plain", "k0", "k16"} {
		lookAt(t, "Named "+s, named(many(), 2, s), answer{e: api.ErrNone})
	}
	empty := tableOf(messageOf("M"))
	lookAt(t, "of no fields", field(empty, 0, 1), answer{e: api.ErrNone})
	lookAt(t, "of no fields", named(empty, 0, "x"), answer{e: api.ErrNone})
	lookAt(t, "of no fields, by no name", named(empty, 0, ""), answer{e: api.ErrNone})
}

// TestP7_2Halving has each count of fields, with gaps and without: each field is found, and no number between.
func TestP7_2Halving(t *testing.T) {
	for count := range api.MaxFields + 1 {
		for _, gap := range []int{1, 2, 3} {
			x := tableOf(messageOf("M", fields(count)...))
			for i := range x.Types[0].Fields {
				x.Types[0].Fields[i].Number = gap*i + gap
			}
			step := 1
			if count > 20 && count < api.MaxFields-2 {
				step = 7
			}
			for number := 0; number <= gap*(count+1); number += step {
				want := answer{e: api.ErrNone}
				if number > 0 && number%gap == 0 && number/gap <= count {
					want = answer{field: x.Types[0].Fields[number/gap-1]}
				}
				lookAt(t, fmt.Sprintf("%d fields, a gap of %d, number %d", count, gap, number), field(x, 0, number), want)
			}
		}
	}
}

func TestP7_3Symbols(t *testing.T) {
	for index, x := range many().Types {
		if !x.Enum {
			continue
		}
		for _, s := range x.Symbols {
			lookAt(t, s.Name, symbol(many(), index, s.Number), answer{name: s.Name})
			lookAt(t, s.Name, number(many(), index, s.Name), answer{number: s.Number})
		}
		for _, n := range []int{math.MinInt, -1 << 31, -1, 1, 2, 4, 6, 1<<31 - 2, 1 << 31, 1 << 32, 1<<32 + 5, math.MaxInt} {
			lookAt(t, fmt.Sprint("the number ", n), symbol(many(), index, n), answer{e: api.ErrNone})
		}
		for _, s := range []string{"", "z", "ZZ", "Z ", "E", "F", "M", "0", "Z.", ".Z"} {
			lookAt(t, "the name "+s, number(many(), index, s), answer{e: api.ErrNone})
		}
	}
	lookAt(t, "another enum's number", symbol(many(), 0, 5), answer{e: api.ErrNone})
	lookAt(t, "another enum's name", number(many(), 0, "X"), answer{e: api.ErrNone})
	widest := tableOf(enumOf("E", symbols(api.MaxFields)...))
	for i, s := range widest.Types[0].Symbols {
		lookAt(t, s.Name, symbol(widest, 0, i), answer{name: s.Name})
		lookAt(t, s.Name, number(widest, 0, s.Name), answer{number: i})
	}
	lookAt(t, "behind the last one", symbol(widest, 0, api.MaxFields), answer{e: api.ErrNone})
	lookAt(t, "E, 0", symbol(em(), 0, 0), answer{name: "A"})
	lookAt(t, "E, B", number(em(), 0, "B"), answer{e: api.ErrNone})
}

// asked has each call that names a type, with what it would find in the chapter's table.
func asked(x api.Table, index int) map[string]answer {
	return map[string]answer{
		"Field": field(x, index, 1), "Named": named(x, index, "x"), "Takes": takes(x, index, 1, api.Varint), "Depths": depths(x, index),
		"Symbol": symbol(x, index, 0), "Number": number(x, index, "A"),
	}
}

var ofEnums = []string{"Symbol", "Number"}

func TestP7_2P7_3P7_4Index(t *testing.T) {
	refused := answer{e: api.ErrArg}
	for _, index := range []int{math.MinInt, -1 << 32, -2, -1, 2, 3, api.MaxTypes, 1 << 32, 1<<32 + 1, math.MaxInt} {
		for call, got := range asked(em(), index) {
			lookAt(t, fmt.Sprintf("%s of the type %d", call, index), got, refused)
		}
		for call, got := range asked(api.Table{}, index) {
			lookAt(t, fmt.Sprintf("%s of the type %d of none", call, index), got, refused)
		}
	}
	for call, got := range asked(api.Table{}, 0) {
		lookAt(t, call+" of the type 0 of none", got, refused)
	}
	for index, x := range em().Types {
		for call, got := range asked(em(), index) {
			if x.Enum != slices.Contains(ofEnums, call) {
				lookAt(t, call+" of the other sort: "+x.Name, got, refused)
			} else if got.e != api.OK {
				t.Errorf("%s of %s: error %d", call, x.Name, got.e)
			}
		}
	}
	for call, got := range asked(many(), len(many().Types)) {
		lookAt(t, call+" behind the last type", got, refused)
	}
}

// TestP7_1ToP7_4NotGood has each call refuse a table whose fault lies far from what is asked.
func TestP7_1ToP7_4NotGood(t *testing.T) {
	for what, last := range map[string]api.Type{
		"a name twice": messageOf("M"), "an enum without symbols": enumOf("F"), "no name": messageOf(""), "a Ref too far": messageOf("N", api.FieldType{Name: "x", Number: 1, Kind: api.Message, Ref: 3, Label: api.Optional}),
		"a symbol in a message": {Name: "N", Symbols: symbols(1)}, "a range that is none": {Name: "N", Reserved: []api.Range{{}}}, "nothing around": messageOf("X.N"),
	} {
		x := em()
		x.Types = append(x.Types, last)
		lookAtGood(t, what, x, false)
		lookAt(t, "Find: "+what, find(x, "M"), answer{e: api.ErrArg})
		lookAt(t, "Find of nothing: "+what, find(x, "none"), answer{e: api.ErrArg})
		for index := range x.Types {
			for call, got := range asked(x, index) {
				lookAt(t, call+": "+what, got, answer{e: api.ErrArg})
			}
		}
	}
}

// TestP7_2Takes has every label, kind and wire kind, and kinds that are none.
func TestP7_2Takes(t *testing.T) {
	wires := map[int][]int{
		api.Varint: {api.Bool, api.Int32, api.Int64, api.Uint32, api.Uint64, api.Sint32, api.Sint64, api.Enum},
		api.Fix32:  {api.Fixed32, api.Sfixed32, api.Float},
		api.Fix64:  {api.Fixed64, api.Sfixed64, api.Double},
		api.Chunk:  {api.String, api.Bytes, api.Message},
	}
	labels := map[int]string{api.Plain: "Plain", api.Optional: "Optional", api.Repeated: "Repeated", api.Packed: "Packed", api.Member: "Member", api.Map: "Map"}
	counts := map[int]int{}
	for wire, kinds := range wires {
		for _, kind := range kinds {
			for label, word := range labels {
				x := many()
				f := &x.Types[1].Fields[1]
				f.Kind, f.Ref, f.Label = kind, map[int]int{api.Enum: 3, api.Message: 1}[kind], label
				if label == api.Map {
					f.Key = api.Bool
				}
				if !table.Good(x) {
					if word != "Packed" && word != "Plain" {
						t.Errorf("%s, kind %d: not good", word, kind)
					}
					continue
				}
				for _, entry := range []int{math.MinInt, -1, 0, 1, 2, 3, 4, 5, 6, 7, 8, 10, 256, 1 << 32, 1<<32 + 2, math.MaxInt} {
					want := 0
					switch {
					case label == api.Map && entry == api.Chunk, label != api.Map && entry == wire:
						want = table.Value
					case (word == "Repeated" || word == "Packed") && wire != api.Chunk && entry == api.Chunk:
						want = table.Row
					}
					counts[want]++
					lookAt(t, fmt.Sprintf("Takes(%s, kind %d, wire kind %d)", word, kind, entry), takes(x, 1, f.Number, entry), answer{number: want})
				}
			}
		}
	}
	if counts[table.Value] != 17*6-1-3 || counts[table.Row] != 28 {
		t.Errorf("counts: %v", counts)
	}
}

func TestP7_2TakesNumbers(t *testing.T) {
	if table.Value != 1 || table.Row != 2 {
		t.Errorf("Value %d, Row %d", table.Value, table.Row)
	}
	for _, number := range []int{math.MinInt, -1, 0, 4, 5, api.MaxNumber, api.MaxNumber + 1, 1<<32 + 1, math.MaxInt} {
		for kind := range 8 {
			lookAt(t, fmt.Sprintf("the number %d, the wire kind %d", number, kind), takes(em(), 1, number, kind), answer{})
		}
	}
	for _, x := range []struct{ number, kind, want int }{
		{1, api.Varint, table.Value}, {1, api.Chunk, 0}, {1, api.Fix32, 0}, {2, api.Chunk, table.Row}, {2, api.Varint, table.Value}, {2, api.Fix64, 0},
		{3, api.Varint, 0}, {3, api.Chunk, table.Value}, {3, api.Fix32, 0},
	} {
		lookAt(t, fmt.Sprint(x), takes(em(), 1, x.number, x.kind), answer{number: x.want})
	}
	lookAt(t, "an enum", takes(em(), 0, 1, 0), answer{e: api.ErrArg})
	lookAt(t, "a reserved number", takes(many(), 1, 6, api.Varint), answer{})
	lookAt(t, "no fields", takes(tableOf(messageOf("M")), 0, 1, api.Varint), answer{})
}
