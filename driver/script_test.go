package driver_test

import (
	"strings"
	"testing"

	"cartouche/api"
)

// TestP20_1TooBig has texts of as many bytes as can be, and of one more, in one line or in many, commands or not.
func TestP20_1TooBig(t *testing.T) {
	for _, ahead := range []string{"#", "types ", "types\n#", "types\n", "\n", "file \"a\" \"", "compile\n\n\n", "\""} {
		for _, one := range []string{" ", "\xff", "#"} {
			script := ahead + strings.Repeat(one, api.MaxText-len(ahead))
			lookAtText(t, script, new(again).script(script))
			refused(t, script+" ", api.ErrTooBig)
			refused(t, script+"\n", api.ErrTooBig)
		}
	}
	lookAtText(t, strings.Repeat(" ", api.MaxText-len("compile"))+"compile", "types 0\n")
	refused(t, strings.Repeat("\n", api.MaxText+1), api.ErrTooBig)
	refused(t, strings.Repeat("types ", 1<<20), api.ErrTooBig)
}

// TestP20_1TooManyLines has as many lines as can be, and one more: those that are passed over count, too.
func TestP20_1TooManyLines(t *testing.T) {
	for _, row := range []struct{ line, told string }{{"", ""}, {"# x", ""}, {" \t", ""}, {"compile", "types 0\n"}, {"foo", "error 11\n"}, {"\r", ""}} {
		ended := strings.Repeat(row.line+"\n", api.MaxLines)
		told := strings.Repeat(row.told, api.MaxLines)
		lookAtText(t, ended, told)
		if row.line != "" { // an empty one that has no end is none
			lookAtText(t, strings.TrimSuffix(ended, "\n"), told)
		}
		for _, more := range []string{"\n", " ", "x", "#", "\r", "types\n", "\n\n"} {
			refused(t, ended+more, api.ErrLimit)
		}
	}
	refused(t, "file \"a\" \"\"\n"+strings.Repeat("\n", api.MaxLines), api.ErrLimit)
	refused(t, strings.Repeat("\n", api.MaxText), api.ErrLimit)
}

// TestP20_1Lines has lines with an end and without: the byte 10 alone is one.
func TestP20_1Lines(t *testing.T) {
	for _, row := range []row{
		{"", ""}, {"\n", ""}, {"\n\n\n", ""}, {"types", "error 20\n"}, {"types\n", "error 20\n"}, {"\ntypes", "error 20\n"}, {"types\n\n", "error 20\n"}, {"types\n ", "error 20\n"},
		{"compile\ntypes", "types 0\n\n"}, {"compile\ntypes\n", "types 0\n\n"}, {"compile\n\n\ntypes\n\n", "types 0\n\n"}, {"compile\r\ntypes\r\n", "types 0\n\n"}, {"compile\n\rtypes", "types 0\n\n"},
		{"compile\rtypes", "error 11\n"}, {"compile\vtypes", "error 11\n"}, {"compile\ftypes", "error 11\n"}, {"compile\x00\n", "error 11\n"}, {"compile\u0085types", "error 11\n"}, {"compile\u2028types", "error 11\n"}, {"compile\\ntypes", "error 11\n"},
	} {
		lookAtText(t, row.script, row.want)
	}
}

// TestP20_1Blanks has blanks ahead of words, between them and behind them: the bytes 32, 9 and 13, and no others.
func TestP20_1Blanks(t *testing.T) {
	for _, blank := range []string{" ", "\t", "\r", "  ", " \t\r", "\r\r\t \t"} {
		lookAtEm(t, blank+"decode"+blank+"M"+blank+"0805"+blank, "x : 5")
		lookAtEm(t, blank+`encode`+blank+`M`+blank+`"x:5"`+blank, "0805")
		lookAtEm(t, blank, "")
		lookAtEm(t, `encode M "x`+blank+`:`+blank+`5"`, "0805")
	}
	for _, other := range []string{"\v", "\f", "\x00", "\x85", "\xa0", "\u00a0", "\u0085", "\u2003", "\u3000", "\x1c", "\x7f", "\b", ",", ";"} {
		lookAtEm(t, "decode"+other+"M 0805", "error 11")
		lookAtEm(t, "decode M"+other+"0805", "error 11")
		lookAtEm(t, other+"decode M 0805", "error 11")
		lookAtEm(t, "decode M 0805"+other, "error 11")
		lookAtEm(t, "decode M"+other+" 0805", "error 20")
		lookAtEm(t, other, "error 11")
	}
}

// TestP20_1Quoted has words that begin with a quote: which bytes they end behind, and what the next word is. The last word of mask may be any, so that it tells how many words there are.
func TestP20_1Quoted(t *testing.T) {
	lookAtRows(t, lookAtEm,
		row{`mask M 0805 "x"`, `error 12`},
		row{`mask M 0805 "x y"`, `error 12`},
		row{`mask M 0805 "x\" y"`, `error 12`},
		row{`mask M 0805 "x\\\" y"`, `error 12`},
		row{`mask M 0805 "x\q y\" z"`, `error 12`},
		row{`mask M 0805 "x\\" y`, `error 11`},
		row{`mask M 0805 "x\\\\" y`, `error 11`},
		row{`mask M 0805 "x" "y"`, `error 11`},
		row{`mask M 0805 "x""y"`, `error 11`},
		row{`mask M 0805 "x"y`, `error 11`},
		row{`mask M 0805 """`, `error 11`},
		row{`mask M 0805 ""`, `error 12`},
		row{`mask "M"0805 x`, `error 20`},
		row{`mask "M" 0805 x`, `error 20`},
		row{`mask "M""0805"x`, `error 11`},
		row{`decode "M"0805`, `error 20`},
		row{`encode M "x:5"`, `0805`},
		row{`encode M "x:5""`, `error 11`},
		row{`encode M "x:5" "`, `error 11`},
		row{`encode M "\x78:5"`, `0805`},
		row{`encode M "x\n:\t5\r"`, `0805`},
		row{`encode M "x:\q5"`, `error 11`},
		row{`encode M "x:5\"`, `error 11`},
		row{`encode M"x:5"`, `error 11`},
		row{`encode "M"x:5`, `error 11`},
		row{`encode M 'x:5'`, `error 11`},
		row{`file "a""message N { }" / compile / types`, `ok / types 1 / N`},
		row{`file "a"	"message N { }" / compile / types`, `ok / types 1 / N`},
		row{`file"a" "message N { }" / compile / types`, `error 11 / types 1 / M`},
		row{`"file" "a" "" / "types" / "compile" / "decode" M 0805`, `error 11 / error 11 / error 11 / error 11`},
		row{`"types / " / ""types / "types"`, `error 11 / error 11 / error 11 / error 11`},
	)
	lookAtText(t, "mask\xff\" \"\ncompile", "error 11\ntypes 0\n")
}

// TestP20_1WithoutEnd has quoted words without an end: they go to the line's end, blanks among them, and no further.
func TestP20_1WithoutEnd(t *testing.T) {
	lookAtRows(t, lookAtEm,
		row{`mask M 0805 "x / types`, `error 12 / M`},
		row{`mask M 0805 "x y z / types`, `error 12 / M`},
		row{`mask M 0805 "x\" y / types`, `error 12 / M`},
		row{`mask M 0805 "x\ / types`, `error 12 / M`},
		row{`mask M 0805 "\ / types`, `error 12 / M`},
		row{`mask M 0805 " / types`, `error 12 / M`},
		row{`mask M 0805 "x" " y / types`, `error 11 / M`},
		row{`mask M 0805 "x\\" "y / types`, `error 11 / M`},
		row{`mask M 0805 x "y / types`, `error 11 / M`},
		row{`decode M "0805 / types"`, `error 11 / error 11`},
		row{`decode "M 0805 / types`, `error 11 / M`},
		row{`encode M "x:5 / types`, `error 11 / M`},
		row{`encode M " / types`, `error 11 / M`},
		row{`file "b" "message N { } / compile / types`, `error 11 / types 1 / M`},
		row{`file "b" "message N { }\" / compile / types`, `error 11 / types 1 / M`},
		row{`file "b" "message N { }\ / compile / types`, `error 11 / types 1 / M`},
		row{`file "b / " "message N { }" / compile / types`, `error 11 / error 11 / types 1 / M`},
	)
}

// TestP20_1Others has words that begin with no quote: quotes and backslashes within them are bytes like others.
func TestP20_1Others(t *testing.T) {
	lookAtRows(t, lookAtEm,
		row{`mask M 0805 x"`, `error 12`},
		row{`mask M 0805 x"y`, `error 12`},
		row{`mask M 0805 x"y z"`, `error 11`},
		row{`mask M 0805 \`, `error 12`},
		row{`mask M 0805 \"`, `error 12`},
		row{`mask M 0805 \" y`, `error 11`},
		row{`mask M 0805 x\ y`, `error 11`},
		row{`mask M" 0805 x`, `error 20`},
		row{`mask M"0805 x`, `error 11`},
		row{`decode M"" 0805`, `error 20`},
		row{`decode M" "0805`, `error 11`},
		row{`decode M\ 0805`, `error 20`},
		row{`decode M 0805#`, `error 11`},
		row{`types" / types""`, `error 11 / error 11`},
	)
}

// TestP20_1Remarks has lines that are passed over, and lines that are not: the first word alone counts.
func TestP20_1Remarks(t *testing.T) {
	for _, line := range []string{"#", "##", "# types", "#types", " # types", "\t\r #", "#\"", "# \"x", "#\xff", "#" + strings.Repeat("x", 1000), "# \\", "", "   "} {
		lookAtEm(t, line, "")
		lookAtEm(t, lines(line, "types", line, line, "decode M 0805", line), "M / x : 5")
	}
	lookAtRows(t, lookAtEm,
		row{`types # / types #x / types "#"`, `error 11 / error 11 / error 11`},
		row{`decode M # / decode M 0805 # / decode # 0805 / decode #`, `error 11 / error 11 / error 20 / error 11`},
		row{`mask M 0805 # / mask M 0805 #x # / mask M 0805 x #`, `error 12 / error 11 / error 11`},
		row{`"# types / "#" / "" / x# / types#`, `error 11 / error 11 / error 11 / error 11 / error 11`},
		row{`// types / ; / -- / * / -`, `error 11 / error 11 / error 11 / error 11 / error 11`},
	)
}

// TestP20_1Hex has digits of both sizes, `-`, and words that are no hex.
func TestP20_1Hex(t *testing.T) {
	lookAtRows(t, lookAtEm,
		row{`decode M 200A / decode M 200a / decode M 22020aFF / decode M 2203fFAbCd`, `? 4 - 0 : 10 / ? 4 - 0 : 10 / ? 4 - 2 : "\n\xff" / ? 4 - 2 : "\xff\xab\xcd"`},
		row{`decode M 220ADEADBEEFdeadbeef0123 / decode M 2208456789abcdef4567`, `? 4 - 2 : "\xde\xad\xbe\xef\xde\xad\xbe\xef\x01#" / ? 4 - 2 : "Eg\x89\xab\xcd\xefEg"`},
		row{`settle M 220ADEADBEEFDEADBEEF0123 / settle M 2203ABCDEF`, `220adeadbeefdeadbeef0123 / 2203abcdef`},
		row{`settle M 2203000a90`, `2203000a90`},
		row{`decode M - / interp M - / settle M - / merge M - - / merge M 0805 - / merge M - 0805`, ` /  / - / - / 0805 / 0805`},
	)
	for _, word := range []string{"0", "080", "08050", "--", "-0", "-08", "08-", "0-", "0x08", "0X08", "x", "0g", "g0", "G0", "08 05", "08,05", "08:05", "+0", "+8", "0+", "_8", "0_8_", "8_", "0_80", "\"\"", "\"0805\"", "\"-\"", "08\"", ".8", "0.", "٠٨", "0\u00e9", "\xff", "\xff\xff", "é", "０８", "08\x00", "0805h", "#", "h08"} {
		for _, line := range []string{"decode M @", "interp M @", "settle M @", "steps M @", "merge M @ 0805", "merge M 0805 @", "mask M @ x", "unpack @", "keep / through M @"} {
			want := "error 11"
			if strings.HasPrefix(line, "keep") {
				want = "ok / error 11"
			}
			lookAtEm(t, strings.ReplaceAll(line, "@", word), want)
		}
	}
}
