package driver_test

import (
	"bytes"
	"strings"
	"testing"

	"cartouche/api"
	"cartouche/samples"
)

// lookAtWide has a table with each label ahead of a script.
func lookAtWide(t *testing.T, script, want string) {
	t.Helper()
	lookAt(t, lines(bundle(samples.File(samples.Wide())), script), lines("ok", "types 3", want))
}

// within tells the hex of bytes that stand in so many messages, one in another, by the chapter's M: its m has the number 3.
func within(around int, b ...byte) string { return hexOf(samples.Inside(3, around, b)) }

// TestP20_1Decode has all labels and kinds of values, what is not known, and each error of reading; interp tells the same.
func TestP20_1Decode(t *testing.T) {
	for _, r := range []row{
		{`-`, ``}, {`0801`, `plain : -1`}, {`0800`, `plain : 0`}, {`120161`, `text : "a"`}, {`1200`, `text : ""`}, {`1805`, `symbol : B`}, {`2001`, `optional : true`}, {`2a05150000803f`, `within { x : f3f800000 }`}, {`2a00`, `within { }`},
		{`3501000000`, `repeated [ 1 ]`}, {`3200`, `repeated [ ]`}, {`3208010000000f000000`, `repeated [ 1 15 ]`}, {`3a08000000000000f03f`, `packed [ d3ff0000000000000 ]`}, {`4200`, `list [ { } ]`}, {`4200350100000042020804`, `repeated [ 1 ] list [ { } { plain : 2 } ]`},
		{`4a00`, `map < "" : { } >`}, {`520408011005`, `numbers < 1 : B >`}, {`52040801100552020803520408011000`, `numbers < 1 : A 3 : A >`}, {`5807`, `a1 : 7`}, {`6200`, `b1 { }`}, {`6a00`, `a2 { }`}, {`7201ff`, `b2 : "\xff"`}, {`58076a00`, `a2 { }`}, {`6a005807`, `a1 : 7`},
		{`faffffff0f0178`, `last : "x"`}, {`08024101000000000000000802`, `plain : 1 ? 8 - 1 : 1`}, {`7a0161850101000000`, `? 15 - 2 : "a" ? 16 - 5 : 1`}, {`1201ff`, `error 8`}, {`1801`, `error 9`}, {`2002`, `error 7`}, {`08`, `error 3`}, {`0b`, `error 6`}, {`00`, `error 5`},
		{`08ffffffffffffffffff02`, `error 4`}, {`2a0115`, `error 3`}, {`0801080208`, `error 3`}, {`18011201ff`, `error 9`}, {`1201ff1801`, `error 8`},
	} {
		lookAtWide(t, lines("decode W "+r.script, "interp W "+r.script), lines(r.want, r.want))
	}
	deepest, deeper := within(api.MaxDepth-1), within(api.MaxDepth)
	text := strings.Repeat("m { ", api.MaxDepth-1) + strings.TrimPrefix(strings.Repeat(" }", api.MaxDepth-1), " ")
	full := strings.Repeat("00", (api.MaxText-len(`? 4 - 2 : ""`))/len(`\x00`))
	for _, name := range []string{"decode", "interp"} {
		lookAtRows(t, lookAtEm,
			row{name + ` M ` + deepest, text},
			row{name + ` M ` + deeper, `error 2`},
			row{name + ` M ` + within(api.MaxDepth-1, 8), `error 3`},
			row{name + ` M ` + within(api.MaxDepth, 8), `error 2`},
			row{name + ` M ` + hexOf(samples.Tag(4, api.Chunk)) + hexOf(samples.Digits(uint64(len(full)/2))) + full, `? 4 - 2 : "` + strings.ReplaceAll(full, "00", `\x00`) + `"`},
			row{name + ` M ` + hexOf(samples.Tag(4, api.Chunk)) + hexOf(samples.Digits(uint64(len(full)/2+1))) + full + "00", `error 1`},
		)
	}
	lookAtRows(t, lookAt,
		row{bundle(`message A { message B { int32 x = 1; } } message B { int32 y = 1; }`) + ` / decode A.B 0801 / decode B 0801 / decode A 0801`, `ok / types 3 / x : 1 / y : 1 / ? 1 - 0 : 1`},
		row{em + ` / decode M 0805 / file "a" "message M { sint32 y = 1; }" / decode M 0805 / compile / decode M 0805 / interp M 0805`, okEm + ` / x : 5 / ok / x : 5 / types 1 / y : -3 / y : -3`},
	)
}

// TestP20_1Encode has texts of all forms, each fault of reading them by its code alone, and what can't be written.
func TestP20_1Encode(t *testing.T) {
	for _, r := range []row{
		{``, `-`}, {`plain:-1`, `0801`}, {`plain:0`, `-`}, {`text:"a"`, `120161`}, {`symbol:B`, `1805`}, {`symbol : A`, `-`}, {`optional:false`, `2000`}, {`within{x:f3f800000}`, `2a05150000803f`}, {`repeated[1 15]`, `3501000000350f000000`}, {`packed[d3FF0000000000000]`, `3a08000000000000f03f`}, {`packed[]`, `-`},
		{`list[{} {plain:2}]`, `420042020804`}, {`map<"b":{} "a":{}>`, `4a050a016112004a050a01621200`}, {`numbers<-1:B>`, `520d08ffffffffffffffffff011005`}, {`a1:7`, `5807`}, {`last:"x" plain:1 // last`, `0802faffffff0f0178`}, {`? 15 - 2 : "a" ? 16 - 5 : 0x1`, `7a0161850101000000`}, {`? 1 - 0 : 5`, `0805`},
		{`plain`, `error 11`}, {"\n\n  plain : x", `error 11`}, {`#`, `error 11`}, {`y:1`, `error 12`}, {`symbol:D`, `error 9`}, {`a1:2147483648`, `error 7`}, {`plain:99999999999999999999`, `error 7`}, {"text:\"\\xff\"", `error 8`}, {`plain:1 plain:1`, `error 13`}, {`a1:1 a2{}`, `error 13`}, {`? 0 - 0 : 1`, `error 5`}, {`? 9 - 3 : 1`, `error 6`}, {`? 9 - 5 : 4294967296`, `error 7`},
		{`numbers<1:A 1:A>`, `error 13`}, {`y:1 #`, `error 11`},
	} {
		lookAtWide(t, "encode W "+quoted(r.script), r.want)
	}
	nested := func(around int) string { return strings.Repeat("m{", around) + strings.Repeat("}", around) }
	lookAtRows(t, lookAtEm,
		row{`encode M "x:5 l[1 2]" / encode M "x:0" / encode M "y:1"`, `080512020102 / - / error 12`},
		row{`encode M "` + nested(api.MaxDepth-1) + `"`, within(api.MaxDepth - 1)},
		row{`encode M "` + nested(api.MaxDepth) + `"`, `error 2`},
		row{`encode M "` + nested(api.MaxDepth) + ` #"`, `error 11`},
	)
	const most = api.MaxMessage / 3 // each value has three bytes
	lookAt(t, bundle(`message M { repeated int32 l = 16 [packed = false]; }`)+` / encode M "l[`+strings.Repeat("1 ", most)+`]"`, `ok / types 1 / `+strings.Repeat("800101", most))
	lookAt(t, bundle(`message M { repeated int32 l = 16 [packed = false]; }`)+` / encode M "l[`+strings.Repeat("1 ", most+1)+`]"`, `ok / types 1 / error 1`)
}

// TestP20_1Merge has the second message put over the first one; the first one's error goes ahead.
func TestP20_1Merge(t *testing.T) {
	lookAtRows(t, lookAtEm,
		row{`merge M 0805 0806 / merge M 0806 0805 / merge M 0805 - / merge M - 0805 / merge M - -`, `0806 / 0805 / 0805 / 0805 / -`},
		row{`merge M 1a020801 1a021001 / merge M 12020102 1003 / merge M 1003 12020102`, `1a050801120101 / 1203010203 / 1203030102`},
		row{`merge M 200122016b 2002 / merge M 2002 200122016b`, `200122016b2002 / 2002200122016b`},
		row{`merge M 0805 0800 / merge M 0800 0805`, `- / 0805`},
		row{`merge M 08 0b / merge M 0b 08 / merge M 0805 0b / merge M 0b 0805 / merge M 0b - / merge M - 08 / merge M 08 05`, `error 3 / error 6 / error 6 / error 6 / error 6 / error 3 / error 3`},
	)
	lookAtWide(t, `merge W 58076a020800 6a00 / merge W 6a00 5807 / merge W 72016b 6200 / merge W 72016b5807 6200 / merge W 4a050a01611200 4a070a016112022a00 / merge W 4a070a016112022a00 4a050a01611200`,
		`6a00 / 5807 / 6200 / 58076200 / 4a070a016112022a00 / 4a050a01611200`)
	// Values that come in a row have nine bytes each, written one by one.
	const most = api.MaxMessage / 9
	row := func(count int) string {
		return hexOf(samples.Join(samples.Tag(api.MaxNumber, api.Chunk), samples.Framed(make([]byte, 4*count))))
	}
	greatest := lines(bundle(`message M { repeated fixed32 l = 536870911 [packed = false]; }`), "merge M "+row(most/2)+" ")
	lookAt(t, greatest+row(most-most/2), `ok / types 1 / `+strings.Repeat("fdffffff0f00000000", most))
	lookAt(t, greatest+row(most-most/2+1), `ok / types 1 / error 1`)
}

// TestP20_1Mask has one path, several, and words that are none.
func TestP20_1Mask(t *testing.T) {
	const all = `08011a050802120103120104` // x : 1 l [ 4 ] m { x : 2 l [ 3 ] }
	for _, r := range []row{
		{`x`, `x : 1`}, {`l`, `l [ 4 ]`}, {`m`, `m { x : 2 l [ 3 ] }`}, {`m.x`, `m { x : 2 }`}, {`m.l,l`, `l [ 4 ] m { l [ 3 ] }`}, {`l,m.l`, `l [ 4 ] m { l [ 3 ] }`}, {`x,x`, `x : 1`}, {`m.x,m`, `m { x : 2 l [ 3 ] }`}, {`m,x,l`, `x : 1 l [ 4 ] m { x : 2 l [ 3 ] }`}, {`m.m`, `m { }`}, {`x,m.x`, `x : 1 m { x : 2 }`},
		{`y`, `error 12`}, {`x,y`, `error 12`}, {`,`, `error 12`}, {`x,`, `error 12`}, {`,x`, `error 12`}, {`x,,l`, `error 12`}, {`x.y`, `error 12`}, {`m.`, `error 12`}, {`-`, `error 12`}, {`"x"`, `error 12`}, {`X`, `error 12`}, {`x;l`, `error 12`}, {`x, l`, `error 11`}, {`x ,l`, `error 11`},
	} {
		lookAtEm(t, "mask M "+all+" "+r.script, r.want)
	}
	lookAtRows(t, lookAtEm,
		row{`mask M 0801 l / mask M 2001 x / mask M 1a022001 m / mask M 1a022001 m.x / mask M 0800 x / mask M - x / mask M - y`, ` /  / m { ? 4 - 0 : 1 } / m { } / x : 0 /  / error 12`},
		row{`mask M 08 y / mask M 08 x / mask M 0b y`, `error 3 / error 3 / error 6`},
	)
	lookAtWide(t, `mask W 2a05150000803f within.x / mask W 2a05150000803f a2.x / mask W 2a00 list.plain / mask W 08021201616a00 a2,text / mask W 0802 plain,last`, `within { x : f3f800000 } / error 12 / error 12 / text : "a" a2 { } / plain : 1`)
	many := strings.Repeat("x,", 12000) + "x"
	lookAtEm(t, `mask M 0801 `+many+` / mask M 0801 `+many+`,y`, `x : 1 / error 12`)
}

// TestP20_1Settle has messages that are not normal, and those that are.
func TestP20_1Settle(t *testing.T) {
	lookAtRows(t, lookAtEm,
		row{`settle M - / settle M 0800 / settle M 0805 / settle M 1200 / settle M 1001 / settle M 2001 / settle M 0805080608 / settle M 080508060800`, `- / - / 0805 / - / 120101 / 2001 / error 3 / -`},
		row{`settle M 1a00 / settle M 1a0208001a021200 / settle M 1a022001 / settle M 0d00000000 / settle M 08050d00000000 / settle M 20011a000805`, `1a00 / 1a00 / 1a022001 / 0d00000000 / 08050d00000000 / 08051a002001`},
		row{`settle M 08 / settle M 0b / settle M ` + within(api.MaxDepth) + ` / settle M ` + within(api.MaxDepth-1), `error 3 / error 6 / error 2 / ` + within(api.MaxDepth-1)},
	)
	lookAtWide(t, `settle W 08001200180020006a0020015a00 / settle W 5801 / settle W 720058006200 / settle W 520408011000`, `20016a005a00 / 5801 / 58006200 / 520408011000`)
}

// TestP20_1Steps has both numbers: of the lowered program and of the optimised one.
func TestP20_1Steps(t *testing.T) {
	lookAtRows(t, lookAtEm,
		row{`steps M - / steps M 0805 / steps M 1001 / steps M 120101 / steps M 1200 / steps M 2001 / steps M 08050806`, `1 1 / 6 5 / 7 5 / 7 5 / 7 5 / 8 5 / 11 9`},
		row{`steps M 1a00 / steps M 1a020805 / steps M 1a021a00`, `9 6 / 14 10 / 17 11`},
		row{`steps M 08 / steps M 0b / steps M ` + within(api.MaxDepth), `error 3 / error 6 / error 2`},
	)
	lookAt(t, bundle(`message M { }`)+` / steps M - / steps M 0801`, `ok / types 1 / 1 1 / 4 4`)
}

// TestP20_1Through has messages that go through the old table and back.
func TestP20_1Through(t *testing.T) {
	const more = `message M { int32 x = 1; repeated uint32 l = 2; M m = 3; string s = 4; }`
	next := lines("keep", bundle(more))
	lookAtRows(t, lookAtEm,
		row{next + ` / through M 0801220161 / through M 2201610801 / through M - / through M 1a03220161`, `ok / ok / types 1 / 0801220161 / 0801220161 / - / 1a03220161`},
		row{next + ` / through M 08 / through M 2201ff / through M 2801 / through M 0800`, `ok / ok / types 1 / error 3 / error 8 / 2801 / -`},
		row{bundle(more) + ` / keep / ` + em + ` / through M 220161 / through M 2201ff / through M 2001 / through M 0801`, `ok / types 1 / ok / ` + okEm + ` / 220161 / error 8 / 2001 / 0801`},
		row{`keep / ` + bundle(`message M { string s = 1; int32 y = 3; }`) + ` / through M 0a0161 / through M 1801 / through M 2001 / through M 1800`, `ok / ok / types 1 / 0a0161 / 1801 / 2001 / -`},
		row{`through M 0801 / keep / through M 0801 / through M 08 / unpack - / through M 0801 / compile / through M 0801`, `error 20 / ok / 0801 / error 3 / types 0 / error 20 / types 1 / 0801`},
	)
	const list, pairs = `message M { M m = 1; repeated P l = 2; } message P { Q q = 2; } message Q { }`, `message M { M m = 1; map<int32, Q> l = 2; } message Q { }`
	lookAt(t, lines(bundle(pairs), "keep", bundle(list), "through M 1200", "through M 12021200"), `ok / types 2 / ok / ok / types 3 / 120412000800 / 120412000800`)
	// Names of the table that the old one has not, or has as an enum: behind reading.
	lookAt(t, lines(bundle(`message M { } enum E { A = 0; }`), "keep", bundle(`message M { } message N { int32 x = 1; } message E { } enum F { Z = 0; }`), "through N 0801", "through N 08", "through E -", "through E 08", "through F -", "through F 08", "through M 0801"),
		`ok / types 2 / ok / ok / types 4 / error 20 / error 3 / error 20 / error 3 / error 20 / error 20 / 0801`)
	// What the old table writes one by one has six bytes for one.
	for _, count := range []int{api.MaxMessage / 6, api.MaxMessage/6 + 1} {
		b := hexOf(samples.Join(samples.Tag(api.MaxNumber, api.Chunk), samples.Framed(bytes.Repeat([]byte{1}, count))))
		want := b
		if 6*count > api.MaxMessage {
			want = "error 1"
		}
		lookAt(t, lines(bundle(`message M { repeated int32 l = 536870911 [packed = false]; }`), "keep", bundle(`message M { repeated int32 l = 536870911; }`), "through M "+b), lines("ok / types 1 / ok / ok / types 1", want))
	}
}
