package table_test

import (
	"math"
	"strings"
	"testing"

	"cartouche/api"
	"cartouche/samples"
	"cartouche/table"
)

func TestP7_1Examples(t *testing.T) {
	lookAtGood(t, "E, M", em(), true)
	lookAtGood(t, "none", api.Table{}, true)
	lookAtGood(t, "an empty list", tableOf(), true)
	alone := tableOf(em().Types[1])
	lookAtGood(t, "M alone, m's Ref 1", alone, false)
	alone.Types[0].Fields[2].Ref = 0
	lookAtGood(t, "M alone, m's Ref 0", alone, true)
	lookAt(t, "Find M", find(em(), "M"), answer{number: 1})
	lookAt(t, "Find N", find(em(), "N"), answer{e: api.ErrNone})
}

func TestP7_1GoodTables(t *testing.T) {
	lookAtGood(t, "many", many(), true)
	for _, count := range []int{1, 2, api.MaxTypes - 1, api.MaxTypes} {
		lookAtGood(t, "messages", tableOf(messages(count)...), true)
	}
	lookAtGood(t, "one type too many", tableOf(messages(api.MaxTypes+1)...), false)
	lookAtGood(t, "an enum too many", tableOf(append(messages(api.MaxTypes), plainEnum("E"))...), false)
	lookAtGood(t, "an enum alone", tableOf(plainEnum("E")), true)
	lookAtGood(t, "MaxFields symbols", tableOf(enumOf("E", symbols(api.MaxFields)...)), true)
	widest := messageOf("M", fields(api.MaxFields)...)
	widest.Reserved = ranges(api.MaxFields, api.MaxFields+1)
	for i := range widest.Fields {
		widest.Oneofs = append(widest.Oneofs, "o"+widest.Fields[i].Name)
		widest.Fields[i].Label, widest.Fields[i].Oneof = api.Member, len(widest.Fields)-1-i
	}
	lookAtGood(t, "MaxFields fields, oneofs, ranges", tableOf(widest), true)
	last := messageOf("M", api.FieldType{Name: "x", Number: api.MaxNumber, Kind: api.Bool})
	lookAtGood(t, "MaxNumber", tableOf(last), true)
	last.Reserved = []api.Range{{Low: 1, High: api.MaxNumber - 1}}
	lookAtGood(t, "all but MaxNumber reserved", tableOf(last), true)
}

// TestP7_1Names has the names that a type, a symbol, a oneof and a field may have, and others.
func TestP7_1Names(t *testing.T) {
	words := map[string]bool{"a": true, "z": true, "A": true, "Z": true, "_": true, "_1": true, "a0": true, "aB_9": true, "int32": true, "message": true, strings.Repeat("x", api.MaxText+1): true,
		"": false, "1": false, "1a": false, "0": false, "a b": false, " a": false, "a ": false, "a-b": false, "-": false, "a:": false, "ä": false, "aä": false, "\x00": false, "a\x00": false, "a\n": false, "@": false, "[": false, "`": false, "{": false, "a/": false, "\xff": false, "a.b": false, ".": false, "a.": false, ".a": false}
	for s, want := range words {
		lookAtGood(t, "a message's name "+s, tableOf(messageOf(s)), want)
		lookAtGood(t, "an enum's name "+s, tableOf(plainEnum(s)), want)
		lookAtGood(t, "a name behind one "+s, tableOf(messageOf("M"), messageOf("M."+s)), want)
		lookAtGood(t, "a symbol's name "+s, tableOf(enumOf("E", api.Symbol{Name: "SS"}, api.Symbol{Name: s, Number: 1})), want)
		lookAtGood(t, "a field's name "+s, tableOf(messageOf("M", api.FieldType{Name: "ff", Number: 1, Kind: api.Bool}, api.FieldType{Name: s, Number: 2, Kind: api.Bool})), want)
		x := messageOf("M", api.FieldType{Name: "ff", Number: 1, Kind: api.Bool, Label: api.Member}, api.FieldType{Name: "gg", Number: 2, Kind: api.Bool, Label: api.Member, Oneof: 1})
		x.Oneofs = []string{"oo", s}
		lookAtGood(t, "a oneof's name "+s, tableOf(x), want)
	}
	for c := range 256 {
		word := c >= 'a' && c <= 'z' || c >= 'A' && c <= 'Z' || c == '_'
		digit := c >= '0' && c <= '9'
		lookAtGood(t, "a byte alone", tableOf(messageOf(string([]byte{byte(c)}))), word)
		lookAtGood(t, "a byte behind another one", tableOf(messageOf("x"+string([]byte{byte(c)}))), word || digit)
	}
}

func TestP7_1FullNames(t *testing.T) {
	for count := range api.MaxNest + 3 {
		l := chain(count)
		lookAtGood(t, "messages in one another", tableOf(l...), count <= api.MaxNest)
		name := "E"
		if count > 0 {
			name = l[count-1].Name + ".E"
		}
		lookAtGood(t, "an enum in them", tableOf(append(l, plainEnum(name))...), count <= api.MaxNest)
	}
	for _, x := range []struct {
		what string
		good bool
		l    []api.Type
	}{
		{"a name twice", false, []api.Type{messageOf("M"), messageOf("M")}},
		{"a name twice, of both sorts", false, []api.Type{messageOf("M"), plainEnum("M")}},
		{"a name twice, far apart", false, append(messages(api.MaxTypes-1), messageOf("M0"))},
		{"a full name twice", false, []api.Type{messageOf("M"), messageOf("M.M"), plainEnum("M.M")}},
		{"names that end alike", true, []api.Type{messageOf("M"), messageOf("N"), messageOf("M.N"), messageOf("N.M"), messageOf("MN")}},
		{"names that differ in greatness", true, []api.Type{messageOf("M"), messageOf("m")}},
		{"nothing around", false, []api.Type{messageOf("X.M")}},
		{"nothing around that one", false, []api.Type{messageOf("X"), messageOf("X.Y.M")}},
		{"the last name around", false, []api.Type{messageOf("X"), messageOf("Y"), messageOf("X.Y.M")}},
		{"what is around behind it", false, []api.Type{messageOf("X.M"), messageOf("X")}},
		{"what is around just behind it", false, []api.Type{messageOf("X"), messageOf("X.Y.Z"), messageOf("X.Y")}},
		{"what is around it far ahead", true, []api.Type{messageOf("X"), messageOf("Y"), plainEnum("E"), messageOf("X.M"), plainEnum("X.M.E")}},
		{"an enum around", false, []api.Type{plainEnum("E"), messageOf("E.M")}},
		{"an enum around an enum", false, []api.Type{plainEnum("E"), plainEnum("E.F")}},
		{"an enum in a message around", false, []api.Type{messageOf("M"), plainEnum("M.E"), messageOf("M.E.N")}},
		{"the beginning of a name around", false, []api.Type{messageOf("MN"), messageOf("M.N")}},
		{"two points", false, []api.Type{messageOf("M"), messageOf("M..N")}},
		{"a point behind", false, []api.Type{messageOf("M"), messageOf("M.")}},
		{"a point ahead", false, []api.Type{messageOf(""), messageOf(".M")}},
		{"around itself", false, []api.Type{messageOf("M.M")}},
	} {
		lookAtGood(t, x.what, tableOf(x.l...), x.good)
	}
}

// spoilt tells a table with one type changed.
func spoilt(x api.Table, index int, change func(*api.Type)) api.Table {
	out := samples.CopyTable(x)
	change(&out.Types[index])
	return out
}

func TestP7_1Enums(t *testing.T) {
	for _, x := range []struct {
		what   string
		good   bool
		change func(*api.Type)
	}{
		{"no symbol", false, func(x *api.Type) { x.Symbols = nil }},
		{"an empty list of symbols", false, func(x *api.Type) { x.Symbols = []api.Symbol{} }},
		{"MaxFields symbols", true, func(x *api.Type) { x.Symbols = symbols(api.MaxFields) }},
		{"a symbol too many", false, func(x *api.Type) { x.Symbols = symbols(api.MaxFields + 1) }},
		{"the first number 1", false, func(x *api.Type) { x.Symbols[0].Number = 1 }},
		{"the first number -1", false, func(x *api.Type) { x.Symbols[0].Number = -1 }},
		{"0 second", false, func(x *api.Type) { x.Symbols = []api.Symbol{{Name: "A", Number: 1}, {Name: "B"}} }},
		{"a name twice", false, func(x *api.Type) { x.Symbols[2].Name = x.Symbols[0].Name }},
		{"a name twice, one behind the other", false, func(x *api.Type) { x.Symbols[2].Name = x.Symbols[1].Name }},
		{"a number twice", false, func(x *api.Type) { x.Symbols[2].Number = x.Symbols[1].Number }},
		{"0 twice", false, func(x *api.Type) { x.Symbols[2].Number = 0 }},
		{"a number below 0", false, func(x *api.Type) { x.Symbols[2].Number = -1 }},
		{"the least number", false, func(x *api.Type) { x.Symbols[1].Number = math.MinInt }},
		{"2^31 - 2", true, func(x *api.Type) { x.Symbols[2].Number = 1<<31 - 2 }},
		{"2^31", false, func(x *api.Type) { x.Symbols[2].Number = 1 << 31 }},
		{"2^31 in the middle", false, func(x *api.Type) { x.Symbols[1].Number = 1 << 31 }},
		{"2^32", false, func(x *api.Type) { x.Symbols[2].Number = 1 << 32 }},
		{"the greatest number", false, func(x *api.Type) { x.Symbols[2].Number = math.MaxInt }},
		{"a symbol's name that is the enum's", true, func(x *api.Type) { x.Symbols[2].Name = "F" }},
		{"a field", false, func(x *api.Type) { x.Fields = fields(1) }},
		{"a oneof", false, func(x *api.Type) { x.Oneofs = []string{"o"} }},
		{"a range", false, func(x *api.Type) { x.Reserved = ranges(1, 1) }},
		{"empty lists", true, func(x *api.Type) {
			x.Fields, x.Oneofs, x.Reserved = []api.FieldType{}, []string{}, []api.Range{}
		}},
		{"an enum that says that it is a message", false, func(x *api.Type) { x.Enum = false }},
	} {
		lookAtGood(t, x.what, spoilt(many(), 3, x.change), x.good)
		alone := tableOf(many().Types[3])
		alone.Types[0].Name = "F"
		lookAtGood(t, x.what+" alone", spoilt(alone, 0, x.change), x.good)
	}
}

func TestP7_1Messages(t *testing.T) {
	number := func(at, n int) func(*api.Type) {
		return func(x *api.Type) { x.Fields[at].Number = n }
	}
	reserve := func(l ...api.Range) func(*api.Type) { return func(x *api.Type) { x.Reserved = l } }
	for _, x := range []struct {
		what   string
		good   bool
		change func(*api.Type)
	}{
		{"a symbol", false, func(x *api.Type) { x.Symbols = symbols(1) }},
		{"an empty list of symbols", true, func(x *api.Type) { x.Symbols = []api.Symbol{} }},
		{"no fields", false, func(x *api.Type) { x.Fields = nil }},
		{"no fields, no oneofs", true, func(x *api.Type) { x.Fields, x.Oneofs = nil, nil }},
		{"nothing", true, func(x *api.Type) { *x = api.Type{Name: x.Name} }},
		{"MaxFields fields", true, func(x *api.Type) { *x = messageOf(x.Name, fields(api.MaxFields)...) }},
		{"a field too many", false, func(x *api.Type) { *x = messageOf(x.Name, fields(api.MaxFields+1)...) }},
		{"MaxFields ranges", true, func(x *api.Type) { x.Reserved = ranges(api.MaxFields, 12) }},
		{"a range too many", false, func(x *api.Type) { x.Reserved = ranges(api.MaxFields+1, 12) }},
		{"a field's name twice", false, func(x *api.Type) { x.Fields[5].Name = x.Fields[1].Name }},
		{"a oneof's name twice", false, func(x *api.Type) { x.Oneofs[1] = x.Oneofs[0] }},
		{"a oneof's name that a field has", false, func(x *api.Type) { x.Oneofs[1] = x.Fields[0].Name }},
		{"a oneof's name that a member has", false, func(x *api.Type) { x.Oneofs[0] = x.Fields[4].Name }},
		{"names that are the message's and another one's", true, func(x *api.Type) { x.Oneofs[0], x.Fields[0].Name = "M", "E" }},
		{"the number 0", false, number(0, 0)},
		{"a number below 0", false, number(0, -1)},
		{"the least number", false, number(0, math.MinInt)},
		{"a number twice", false, number(1, 1)},
		{"a number that does not rise", false, number(1, 0)},
		{"numbers turned round", false, func(x *api.Type) { x.Fields[0], x.Fields[1] = x.Fields[1], x.Fields[0] }},
		{"the last number that does not rise", false, number(7, 8)},
		{"MaxNumber", true, func(x *api.Type) { x.Reserved = nil; x.Fields[7].Number = api.MaxNumber }},
		{"MaxNumber + 1", false, func(x *api.Type) { x.Reserved = nil; x.Fields[7].Number = api.MaxNumber + 1 }},
		{"the greatest number", false, func(x *api.Type) { x.Reserved = nil; x.Fields[7].Number = math.MaxInt }},
		{"MaxNumber + 1 in the middle", false, func(x *api.Type) { x.Reserved = nil; x.Fields[6].Number = api.MaxNumber + 1 }},
		{"no ranges", true, reserve()},
		{"a range from 0", false, reserve(api.Range{Low: 0, High: 0})},
		{"a range below 0", false, reserve(api.Range{Low: -5, High: -3})},
		{"a range from below 0 on", false, reserve(api.Range{Low: math.MinInt, High: 9})},
		{"a range to MaxNumber", true, reserve(api.Range{Low: 12, High: api.MaxNumber})},
		{"MaxNumber alone", true, reserve(api.Range{Low: api.MaxNumber, High: api.MaxNumber})},
		{"a range beyond MaxNumber", false, reserve(api.Range{Low: 12, High: api.MaxNumber + 1})},
		{"MaxNumber + 1 alone", false, reserve(api.Range{Low: api.MaxNumber + 1, High: api.MaxNumber + 1})},
		{"a range to the greatest number", false, reserve(api.Range{Low: 12, High: math.MaxInt})},
		{"a range turned round", false, reserve(api.Range{Low: 10, High: 9})},
		{"a range turned round behind all fields", false, reserve(api.Range{Low: 30, High: 20})},
		{"a range turned round, and 0", false, reserve(api.Range{Low: 6, High: 0})},
		{"ranges side by side", true, reserve(api.Range{Low: 20, High: 21}, api.Range{Low: 22, High: 22}, api.Range{Low: 23, High: 29})},
		{"ranges that do not rise", false, reserve(api.Range{Low: 9, High: 9}, api.Range{Low: 6, High: 6})},
		{"ranges that do not rise, side by side", false, reserve(api.Range{Low: 10, High: 10}, api.Range{Low: 9, High: 9})},
		{"a range twice", false, reserve(api.Range{Low: 9, High: 9}, api.Range{Low: 9, High: 9})},
		{"ranges that meet", false, reserve(api.Range{Low: 20, High: 25}, api.Range{Low: 25, High: 30})},
		{"a range in another one", false, reserve(api.Range{Low: 20, High: 30}, api.Range{Low: 22, High: 23})},
		{"a range around another one", false, reserve(api.Range{Low: 22, High: 23}, api.Range{Low: 20, High: 30})},
		{"a range that is the first field's number", false, reserve(api.Range{Low: 1, High: 1})},
		{"a range that is the last field's number", false, reserve(api.Range{Low: 11, High: 11})},
		{"a range that begins with a field's number", false, reserve(api.Range{Low: 8, High: 10})},
		{"a range that ends with a field's number", false, reserve(api.Range{Low: 9, High: 11})},
		{"a range around a field's number", false, reserve(api.Range{Low: 6, High: 10})},
		{"a range around all", false, reserve(api.Range{Low: 1, High: api.MaxNumber})},
		{"a later range that meets a field", false, reserve(api.Range{Low: 6, High: 6}, api.Range{Low: 9, High: 40})},
		{"a oneof without a member", false, func(x *api.Type) { x.Oneofs = append(x.Oneofs, "three") }},
		{"a oneof whose member is another one's", false, func(x *api.Type) { x.Fields[4].Oneof = 1 }},
		{"a oneof whose member is none", false, func(x *api.Type) { x.Fields[4].Label = api.Optional }},
		{"oneofs turned round", true, func(x *api.Type) { x.Oneofs[0], x.Oneofs[1] = x.Oneofs[1], x.Oneofs[0] }},
		{"a message that says that it is an enum", false, func(x *api.Type) { x.Enum = true }},
	} {
		lookAtGood(t, x.what, spoilt(many(), 1, x.change), x.good)
	}
}

// TestP7_1Fields changes one field alone: of the types E, M, M.N, M.N.F and M.E it stands in M.
func TestP7_1Fields(t *testing.T) {
	for _, x := range []struct {
		what   string
		at     int
		good   bool
		change func(*api.FieldType)
	}{
		{"the kind 0", 4, false, func(f *api.FieldType) { f.Kind = 0 }},
		{"a kind below 0", 4, false, func(f *api.FieldType) { f.Kind = -1 }},
		{"the last kind", 4, true, func(f *api.FieldType) { f.Kind, f.Ref = api.Message, 1 }},
		{"a kind beyond Message", 4, false, func(f *api.FieldType) { f.Kind = api.Message + 1 }},
		{"a kind beyond Message, with a message", 4, false, func(f *api.FieldType) { f.Kind, f.Ref = api.Message+1, 1 }},
		{"the least kind", 4, false, func(f *api.FieldType) { f.Kind = math.MinInt }},
		{"an enum's Ref below 0", 0, false, func(f *api.FieldType) { f.Ref = -1 }},
		{"an enum's Ref of the first type", 0, true, func(f *api.FieldType) { f.Ref = 0 }},
		{"an enum's Ref of the last type", 0, true, func(f *api.FieldType) { f.Ref = 4 }},
		{"an enum's Ref too far", 0, false, func(f *api.FieldType) { f.Ref = 5 }},
		{"an enum's Ref of a message", 0, false, func(f *api.FieldType) { f.Ref = 2 }},
		{"an enum's greatest Ref", 0, false, func(f *api.FieldType) { f.Ref = math.MaxInt }},
		{"a message's Ref below 0", 1, false, func(f *api.FieldType) { f.Ref = -1 }},
		{"a message's least Ref", 1, false, func(f *api.FieldType) { f.Ref = math.MinInt }},
		{"a message's Ref too far", 1, false, func(f *api.FieldType) { f.Ref = 5 }},
		{"a message's Ref of an enum", 1, false, func(f *api.FieldType) { f.Ref = 3 }},
		{"a message's Ref of another message", 1, true, func(f *api.FieldType) { f.Ref = 2 }},
		{"a map's Ref of an enum", 7, false, func(f *api.FieldType) { f.Ref = 0 }},
		{"a map of enums", 7, true, func(f *api.FieldType) { f.Kind, f.Ref = api.Enum, 0 }},
		{"a string's Ref", 2, false, func(f *api.FieldType) { f.Ref = 1 }},
		{"a string's Ref below 0", 2, false, func(f *api.FieldType) { f.Ref = -1 }},
		{"the Ref of what is no enum any more", 0, false, func(f *api.FieldType) { f.Kind = api.Bytes }},
		{"a label below Plain", 0, false, func(f *api.FieldType) { f.Label = api.Plain - 1 }},
		{"a label beyond Map", 0, false, func(f *api.FieldType) { f.Label = api.Map + 1 }},
		{"a label beyond Map, with a key", 7, false, func(f *api.FieldType) { f.Label = api.Map + 1 }},
		{"the least label", 0, false, func(f *api.FieldType) { f.Label = math.MinInt }},
		{"the greatest label", 0, false, func(f *api.FieldType) { f.Label = math.MaxInt }},
		{"Plain of a message", 1, false, func(f *api.FieldType) { f.Label = api.Plain }},
		{"Repeated of a message", 1, true, func(f *api.FieldType) { f.Label = api.Repeated }},
		{"Packed of a message", 1, false, func(f *api.FieldType) { f.Label = api.Packed }},
		{"Packed of a string", 2, false, func(f *api.FieldType) { f.Label = api.Packed }},
		{"Packed of bytes", 2, false, func(f *api.FieldType) { f.Label, f.Kind = api.Packed, api.Bytes }},
		{"Packed of an enum", 0, true, func(f *api.FieldType) { f.Label = api.Packed }},
		{"Member of a message", 1, true, func(f *api.FieldType) { f.Label = api.Member }},
		{"a Member's Oneof below 0", 6, false, func(f *api.FieldType) { f.Oneof = -1 }},
		{"a Member's first Oneof", 6, true, func(f *api.FieldType) { f.Oneof = 0 }},
		{"a Member's Oneof too far", 6, false, func(f *api.FieldType) { f.Oneof = 2 }},
		{"a Member's greatest Oneof", 6, false, func(f *api.FieldType) { f.Oneof = math.MaxInt }},
		{"a Oneof of what is no Member", 0, false, func(f *api.FieldType) { f.Oneof = 1 }},
		{"a Oneof below 0 of what is no Member", 0, false, func(f *api.FieldType) { f.Oneof = -1 }},
		{"a Oneof of a Map", 7, false, func(f *api.FieldType) { f.Oneof = 1 }},
		{"a Map's key 0", 7, false, func(f *api.FieldType) { f.Key = 0 }},
		{"a Map's key below 0", 7, false, func(f *api.FieldType) { f.Key = -1 }},
		{"a Map's key beyond all", 7, false, func(f *api.FieldType) { f.Key = api.Message + 1 }},
		{"a key of what is no Map", 0, false, func(f *api.FieldType) { f.Key = api.Bool }},
		{"a key of a Member", 4, false, func(f *api.FieldType) { f.Key = api.String }},
		{"a key below 0 of what is no Map", 0, false, func(f *api.FieldType) { f.Key = -1 }},
	} {
		lookAtGood(t, x.what, spoilt(many(), 1, func(m *api.Type) { x.change(&m.Fields[x.at]) }), x.good)
	}
}

// TestP7_1Labels has each label with each kind, each key and a Oneof, by lists of the chapter's.
func TestP7_1Labels(t *testing.T) {
	keys := []int{api.Bool, api.Int32, api.Int64, api.Uint32, api.Uint64, api.Sint32, api.Sint64, api.Fixed32, api.Fixed64, api.Sfixed32, api.Sfixed64, api.String}
	isKey := map[int]bool{}
	for _, k := range keys {
		isKey[k] = true
	}
	refs := map[int]int{api.Enum: 3, api.Message: 1}
	for label := api.Plain - 1; label <= api.Map+1; label++ {
		for kind := api.Bool - 1; kind <= api.Message+1; kind++ {
			for key := -1; key <= api.Message+1; key++ {
				x := many()
				f := &x.Types[1].Fields[1]
				f.Kind, f.Ref, f.Label, f.Key = kind, refs[kind], label, key
				want := label >= api.Plain && label <= api.Map && kind >= api.Bool && kind <= api.Message
				want = want && !(label == api.Plain && kind == api.Message) && !(label == api.Packed && (kind == api.String || kind == api.Bytes || kind == api.Message))
				if label == api.Map {
					want = want && isKey[key]
				} else {
					want = want && key == 0
				}
				if table.Good(x) != want {
					t.Errorf("label %d, kind %d, key %d: Good is %v", label, kind, key, !want)
				}
			}
		}
	}
}

// TestP7_1EveryPlace breaks each type and each field of a table, not the first alone.
func TestP7_1EveryPlace(t *testing.T) {
	for i := range many().Types {
		lookAtGood(t, "a type's name", spoilt(many(), i, func(x *api.Type) { x.Name += "-" }), false)
		lookAtGood(t, "a type's sort", spoilt(many(), i, func(x *api.Type) { x.Enum = !x.Enum }), false)
		for at := range many().Types[i].Fields {
			for what, change := range map[string]func(*api.FieldType){
				"name": func(f *api.FieldType) { f.Name += "-" }, "number": func(f *api.FieldType) { f.Number = api.MaxNumber + 1 },
				"kind": func(f *api.FieldType) { f.Kind = 0 }, "ref": func(f *api.FieldType) { f.Ref = -1 }, "label": func(f *api.FieldType) { f.Label = -1 },
				"oneof": func(f *api.FieldType) { f.Oneof = -1 }, "key": func(f *api.FieldType) { f.Key = api.Float },
			} {
				lookAtGood(t, what, spoilt(many(), i, func(x *api.Type) { change(&x.Fields[at]) }), false)
			}
		}
		for at := range many().Types[i].Symbols {
			lookAtGood(t, "a symbol's name", spoilt(many(), i, func(x *api.Type) { x.Symbols[at].Name += "." }), false)
			lookAtGood(t, "a symbol's number", spoilt(many(), i, func(x *api.Type) { x.Symbols[at].Number = -1 }), false)
		}
		for at := range many().Types[i].Reserved {
			lookAtGood(t, "a range's low", spoilt(many(), i, func(x *api.Type) { x.Reserved[at].Low = x.Reserved[at].High + 1 }), false)
			lookAtGood(t, "a range's high", spoilt(many(), i, func(x *api.Type) { x.Reserved[at].High = x.Reserved[at].Low - 1 }), false)
		}
		for at := range many().Types[i].Oneofs {
			lookAtGood(t, "a oneof's name", spoilt(many(), i, func(x *api.Type) { x.Oneofs[at] += " " }), false)
		}
	}
}
