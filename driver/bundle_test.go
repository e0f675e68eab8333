package driver_test

import (
	"fmt"
	"hash/fnv"
	"strconv"
	"strings"
	"testing"

	"cartouche/api"
	"cartouche/samples"
)

// TestP20_1File has sources that stand behind one another, or in place of one another, by their names as bytes.
func TestP20_1File(t *testing.T) {
	lookAtRows(t, lookAt,
		row{`file "a" "message A { }" / compile / types`, `ok / types 1 / A`},
		row{`file "b" "message B { }" / file "a" "message A { }" / compile / types`, `ok / ok / types 2 / B A`},
		row{`file "b" "message B { }" / file "a" "message A { }" / file "b" "message C { } enum D { Z = 0; }" / compile / types`, `ok / ok / ok / types 3 / C D A`},
		row{`file "b" "message B { }" / file "a" "message A { }" / file "c" "message C { }" / file "a" "" / compile / types`, `ok / ok / ok / ok / types 2 / B C`},
		row{`file "a" "message A { }" / file "\x61" "message B { }" / compile / types`, `ok / ok / types 1 / B`},
		row{`file "a" "message A { }" / file "A" "message B { }" / file "" "message C { }" / file "a " "message D { }" / file "\x00" "message E { }" / compile / types`, `ok / ok / ok / ok / ok / types 5 / A B C D E`},
		row{`file "" "message A { }" / file "" "message B { }" / compile / types`, `ok / ok / types 1 / B`},
		row{`file "a" "message A {\n}\n// the end" / compile / types`, `ok / types 1 / A`},
		row{`file "a" "message\x20A\t{\r}" / compile / types`, `ok / types 1 / A`},
		row{`file "a" "" / compile / types`, `ok / types 0 / `},
		row{`file "a" "anything" / types / file "a" "message A { }" / compile`, `ok / error 20 / ok / types 1`},
		row{`file "a\"\\\n" "message A { }" / file "b" "import \"a\\\"\\\\\\n\"; message B { A a = 1; }" / compile / types`, `ok / ok / types 2 / A B`},
	)
	lookAtText(t, "file \"\xff\t\" \"message A { }\"\nfile \"b\" \"import \\\"\xff\t\\\"; message B { A a = 1; }\"\ncompile\n", "ok\nok\ntypes 2\n")
	lookAtText(t, "file \"\u00e9\" \"message A { }\"\nfile \"\\xc3\\xa9\" \"\"\ncompile\n", "ok\nok\ntypes 0\n")
}

// TestP20_1Compile has bundles that are accepted: the table is theirs from then on, and not ahead of that.
func TestP20_1Compile(t *testing.T) {
	lookAtRows(t, lookAt,
		row{`compile / types`, `types 0 / `},
		row{`compile / compile / types`, `types 0 / types 0 / `},
		row{bundle(`message A { message B { enum C { Z = 0; } } } message D { }`) + ` / types`, `ok / types 4 / A A.B A.B.C D`},
		row{`file "a" "message A { }" / types / compile / types / file "a" "message B { }" / types / compile / types`, `ok / error 20 / types 1 / A / ok / A / types 1 / B`},
		row{`file "a" "import \"b\"; message A { B b = 1; }" / compile / file "b" "message B { }" / compile / types`, `ok / error 14 1 1 8 / ok / types 2 / A B`},
		row{`compile / file "a" "message A { }" / decode A - / compile / decode A 0801 / decode B -`, `types 0 / ok / error 20 / types 1 / ? 1 - 0 : 1 / error 20`},
		row{`unpack 0a0a0a014510012a030a0141 / types / file "a" "message A { }" / compile / types`, `types 1 / E / ok / types 1 / A`},
		row{bundle(samples.File(samples.Wide())) + ` / types`, `ok / types 3 / E W V`},
	)
	for _, count := range []int{1, 9, 10, 99, 100, api.MaxTypes} {
		text := strings.ReplaceAll(times(count, "message M# { }"), mark, " ")
		lookAt(t, bundle(text)+" / types", lines("ok", "types "+strconv.Itoa(count), strings.ReplaceAll(times(count, "M#"), mark, " ")))
	}
}

// TestP20_1CompileFaults has bundles that are not: with each error its file, its line and its column; the table that was there stays.
func TestP20_1CompileFaults(t *testing.T) {
	for _, r := range []struct {
		text            string
		code, line, col int
	}{
		{`message`, 11, 1, 8}, {"\n\nmessage A {\n  foo\n}", 11, 5, 1}, {`message M { int32 x = 0; }`, 7, 1, 23}, {`message M { int32 x = 1; string x = 2; }`, 13, 1, 33}, {`message M { reserved 5 to 9; Foo f = 5; }`, 5, 1, 38},
		{`message M { Foo f = 1; }`, 12, 1, 13}, {`message M { optional M m = 1; }`, 16, 1, 13}, {`message M { map<double, M> m = 1; }`, 16, 1, 17}, {`message M { string s = 1 [packed = true]; }`, 16, 1, 27}, {`enum E { A = 1; }`, 9, 1, 14}, {`enum E { }`, 9, 1, 6},
		{`message A {} enum A { Z = 0; }`, 13, 1, 19}, {`import "d";`, 15, 1, 8}, {`import "e";`, 14, 1, 8}, {`import "a"; import "a";`, 13, 1, 20}, {`message M { } #`, 11, 1, 15}, {`/* x`, 11, 1, 1}, {"message M { int32 x = 99999999999999999999; }", 7, 1, 23}, {"\xff", 11, 1, 1},
		{strings.Repeat("message A {\n", api.MaxNest+1) + strings.Repeat("}\n", api.MaxNest+1), 17, 9, 1}, {strings.ReplaceAll(times(api.MaxTypes+1, "message M# { }"), mark, "\n"), 17, 129, 9},
		{"message M {\n" + strings.ReplaceAll(times(api.MaxFields, "int32 f# = 1#;"), mark, "\n") + "\nint32 y = 1; }", 17, 130, 7}, {strings.Repeat(" ", 12344) + "x", 11, 1, 12345}, {strings.Repeat("\n", 9999) + "x", 11, 10000, 1},
	} {
		lookAt(t, lines(`file "a" ""`, `file "b" ""`, `unpack 0a0a0a014510012a030a0141`, file("d", r.text), "compile", "types"), lines("ok", "ok", "types 1", "ok", fmt.Sprintf("error %d 3 %d %d", r.code, r.line, r.col), "E"))
	}
	lookAtRows(t, lookAt,
		row{`file "a" "" / file "b" "import \"c\";" / file "c" "\n import \"b\";" / compile`, `ok / ok / ok / error 15 2 1 8`},
		row{`file "a" "" / file "b" "" / file "c" "\n import \"b\"; import\n\"b\";" / compile`, `ok / ok / ok / error 13 3 3 1`},
		row{times(16, `file "#" "message M# { }"`) + ` / file "15" "\nmessage M0 { }" / compile`, times(17, "ok") + ` / error 13 16 2 9`},
		row{`file "a" "foo" / compile / compile / file "a" "" / compile`, `ok / error 11 1 1 1 / error 11 1 1 1 / ok / types 0`},
	)
}

// TestP20_1Keep: the table that was there when it was kept is the old one, whatever comes then.
func TestP20_1Keep(t *testing.T) {
	lookAtRows(t, lookAt,
		row{`keep / compile / keep / diff`, `error 20 / types 0 / ok / same 0`},
		row{`compile / keep / ` + em + ` / diff / keep / diff / compile / diff`, `types 0 / ok / ` + okEm + ` / additive 1 / ok / same 0 / types 1 / same 0`},
		row{`compile / keep / ` + em + ` / keep / unpack - / diff / types`, `types 0 / ok / ` + okEm + ` / ok / types 0 / breaking 1 / `},
		row{em + ` / keep / file "a" "message M { }" / diff / compile / diff / file "a" "" / diff / compile / diff`, okEm + ` / ok / ok / same 0 / types 1 / breaking 3 / ok / breaking 3 / types 0 / breaking 1`},
		row{`unpack 0a0a0a014510012a030a0141 / keep / compile / diff / through E -`, `types 1 / ok / types 0 / breaking 1 / error 20`},
	)
}

// TestP20_1Types has no types, one, and many, those within others by their full names.
func TestP20_1Types(t *testing.T) {
	lookAtRows(t, lookAt,
		row{`types / compile / types`, `error 20 / types 0 / `},
		row{em + ` / types`, okEm + ` / M`},
		row{bundle(`enum E { Z = 0; } message M { message N { } enum E { Z = 0; } } message N { message N { message N { } } }`) + ` / types`, `ok / types 7 / E M M.N M.E N N.N N.N.N`},
		row{`file "a" "import \"b\"; message A { }" / file "b" "message B { message A { } }" / compile / types`, `ok / ok / types 3 / A B B.A`},
	)
}

// sumOf sums bytes up by the library's means.
func sumOf(b ...byte) uint64 {
	sum := fnv.New64a()
	sum.Write(b)
	return sum.Sum64()
}

// TestP20_1Program has sums below 2^63 and above, and the optimised program's number of steps and rows.
func TestP20_1Program(t *testing.T) {
	none, enum := fmt.Sprintf("%d 0", sumOf(67, 84, 0)), fmt.Sprintf("%d 1", sumOf(67, 84, 1, 0, 0, 1, 0, 0))
	// Chapter 14's block of M, and E's, as chapter 16 lays them.
	both := fmt.Sprintf("%d 26", sumOf(67, 84, 2, 0, 0, 1, 0, 0, 12, 9, 4,
		1, 3, 10, 14, 2, 1, 4, 0, 15, 4, 2, 4, 0, 11, 2, 4, 0, 4, 0, 10, 3, 1, 0, 4, 0, 13, 4, 0,
		16, 1, 2, 2, 25, 8, 2, 16, 2, 4, 0, 21, 18, 4, 16, 3, 7, 0, 17, 26, 19, 1, 23, 24,
		8, 2, 16, 4, 18, 6, 26, 8))
	lookAtRows(t, lookAt,
		row{`program / compile / program`, `error 20 / types 0 / ` + none},
		row{em + ` / program / program`, okEm + ` / 17555516894425353945 25 / 17555516894425353945 25`},
		row{bundle(`enum E { A = 0; }`) + ` / program / unpack - / program / compile / program`, `ok / types 1 / ` + enum + ` / types 0 / ` + none + ` / types 1 / ` + enum},
		row{bundle(`enum E { A = 0; } message M { int32 x = 1; repeated uint32 l = 2; M m = 3; }`) + ` / program`, `ok / types 2 / ` + both},
	)
	var isGreat [2]int
	m := samples.New(2011)
	for range 40 {
		script := strings.ReplaceAll(lines(bundle(samples.File(m.SomeTable())), "program"), mark, "\n")
		told := new(again).script(script)
		lookAtText(t, script, told)
		sum, err := strconv.ParseUint(strings.Fields(told)[3], 10, 64)
		if err != nil {
			t.Fatal(err)
		}
		isGreat[sum>>63]++
	}
	if isGreat[0] == 0 || isGreat[1] == 0 {
		t.Errorf("sums: %v", isGreat)
	}
}

// TestP20_1Pack has the bytes of chapter 12's examples, and of more.
func TestP20_1Pack(t *testing.T) {
	lookAtRows(t, lookAt,
		row{`pack / compile / pack`, `error 20 / types 0 / -`},
		row{bundle(`enum E { A = 0; }`) + ` / pack`, `ok / types 1 / 0a0a0a014510012a030a0141`},
		row{em + ` / pack / unpack - / pack`, okEm + ` / 0a220a014d1a070a0178100118021a090a016c1002180428031a090a016d100318112801 / types 0 / -`},
	)
	for _, x := range []api.Table{samples.Small(), samples.Wide(), samples.New(2012).Rich()} {
		lookAt(t, lines(bundle(samples.File(x)), "pack"), lines("ok", fmt.Sprint("types ", len(x.Types)), hexOf(packed(t, x))))
	}
	lookAt(t, bundle(great())+" / types / pack / keep / diff", "ok / types 128 / "+strings.ReplaceAll(times(128, "M#"), mark, " ")+" / error 1 / ok / same 0")
}

// great tells a file of which the table has more bytes than a message may have.
func great() string {
	var b strings.Builder
	for i := range api.MaxTypes {
		fmt.Fprintf(&b, "message M%d{", i)
		for j := range 50 {
			fmt.Fprintf(&b, "M0 f%d=%d;", j, j+1)
		}
		b.WriteString("}")
	}
	return b.String()
}

// TestP20_1Unpack has bytes that are a table, which is the one from then on, and bytes that are none.
func TestP20_1Unpack(t *testing.T) {
	const small = "0a0a0a014510012a030a0141"
	lookAtRows(t, lookAt,
		row{`unpack - / types / pack / program`, `types 0 /  / - / ` + fmt.Sprintf("%d 0", sumOf(67, 84, 0))},
		row{`unpack ` + small + ` / types / pack / diff / keep / diff`, `types 1 / E / ` + small + ` / error 20 / ok / same 0`},
		row{`unpack ` + strings.ToUpper(small) + ` / types`, `types 1 / E`},
		row{`unpack ` + small + `0a030a014d / types / decode M 0801 / decode E - / unpack - / decode M -`, `types 2 / E M / ? 1 - 0 : 1 / error 20 / types 0 / error 20`},
		row{`unpack ` + small + `10011a00 / types / pack`, `types 1 / E / ` + small},
		row{`unpack 0a00 / unpack 08 / unpack 0a0a / unpack 0b / unpack 00 / unpack 0aff / unpack ffffffffffffffffffff01 / unpack 0a030a01ff / types`, `error 18 / error 3 / error 3 / error 6 / error 5 / error 3 / error 4 / error 8 / error 20`},
		row{`unpack 0a050a014d1002 / unpack ` + small + small + ` / unpack 0a030a0131 / unpack 0a0a0a014d1a051801100208 / types`, `error 7 / error 18 / error 18 / error 3 / error 20`},
		row{em + ` / unpack 0a00 / unpack 08 / types / decode M 0805`, okEm + ` / error 18 / error 3 / M / x : 5`},
	)
	m := samples.New(2013)
	for range 100 {
		x := samples.GoodTable(m.AnyTable)
		lookAt(t, lines(described(t, x), "pack", "keep", "compile", "diff"), lines(fmt.Sprint("types ", len(x.Types)), hexOf(packed(t, x)), "ok", "types 0", lostAll(x)))
	}
}

// lostAll tells what is told, if a table is the old one, and there are no types any more.
func lostAll(x api.Table) string {
	if len(x.Types) == 0 {
		return "same 0"
	}
	return fmt.Sprint("breaking ", len(x.Types))
}

// TestP20_1Diff has each class, from the old table to the one that is there, and how many changes there are.
func TestP20_1Diff(t *testing.T) {
	const old = `enum E { A = 0; B = 1; } message M { int32 x = 1; repeated uint32 l = 2; M m = 3; string s = 4; }`
	for _, r := range []row{
		{old, `same 0`}, {`message M { string s = 4; M m = 3; int32 x = 1; repeated uint32 l = 2; } enum E { A = 0; B = 1; }`, `same 0`}, {old + ` message N { } enum F { Z = 0; }`, `additive 2`},
		{strings.Replace(old, `}  `, `}`, 1) + strings.Repeat(` `, 9), `same 0`}, {strings.Replace(old, `string s = 4;`, `string s = 4; bool b = 5; bool c = 6; bool d = 7;`, 1), `additive 3`}, {strings.Replace(old, `int32 x`, `int64 x`, 1), `widening 1`},
		{strings.Replace(old, `B = 1;`, `B = 1; C = 2;`, 1), `widening 1`}, {strings.Replace(old, `int32 x = 1`, `int64 y = 1`, 1) + ` message N { }`, `widening 3`}, {strings.Replace(old, `B = 1;`, ``, 1), `breaking 1`}, {strings.Replace(old, `int32 x`, `string y`, 1), `breaking 2`},
		{`message M { reserved 1 to 4; }`, `breaking 6`}, {`message M { }`, `breaking 5`}, {``, `breaking 2`}, {strings.ReplaceAll(strings.ReplaceAll(old, `M m`, `N m`), `message M`, `message N`), `breaking 2`}, {`message E { } enum M { Z = 0; }`, `breaking 2`},
	} {
		types := strings.Count(r.script, "{")
		lookAt(t, lines(bundle(old), "keep", bundle(r.script), "diff", "diff"), lines("ok", "types 2", "ok", "ok", fmt.Sprint("types ", types), r.want, r.want))
	}
	lookAtRows(t, lookAt,
		row{`diff / compile / diff / keep / diff`, `error 20 / types 0 / error 20 / ok / same 0`},
		row{`compile / keep / ` + em + ` / diff / keep / unpack - / diff`, `types 0 / ok / ` + okEm + ` / additive 1 / ok / types 0 / breaking 1`},
		row{bundle(great()) + ` / keep / unpack - / diff`, `ok / types 128 / ok / types 0 / breaking 128`},
	)
}
