package code_test

import (
	"slices"
	"strconv"
	"strings"
	"testing"

	"cartouche/api"
	"cartouche/plan"
)

// leastText is that of a program as least tells it: of what stands in its first block.
func leastText(within ...string) string {
	return lines(slices.Concat([]string{"block 0"}, within, []string{"block 1", "  dec 0 tag", "  dec 1 go 0", "  enc 0 end", "block 2", "  row 0 0"})...)
}

// TestP16_2Steps has each operation with just the numbers that it names.
func TestP16_2Steps(t *testing.T) {
	for _, s := range readSteps() {
		lookAtText(t, s.step, least("Tag; "+s.step+"; Go 0", "End", ""), leastText("  dec 0 tag", "  dec 1 "+s.words, "  dec 2 go 0", "  enc 0 end"))
	}
	for _, s := range writeSteps() {
		lookAtText(t, s.step, least("Tag; Go 0", s.step+"; End", ""), leastText("  dec 0 tag", "  dec 1 go 0", "  enc 0 "+s.words, "  enc 1 end"))
	}
	lookAtText(t, "Jump", least("Tag; Jump 2; Go 0", "End", "8 2"), leastText("  dec 0 tag", "  dec 1 jump 2", "  dec 2 go 0", "  enc 0 end", "  row 8 2"))
}

func TestP16_2Rows(t *testing.T) {
	lookAtText(t, "E", enum(), "block 0\n  row 0 0\n")
	lookAtText(t, "symbols", of(plan.Block{Rows: rows("0 0; 10 0; 128 0; 2147483647 0")}), lines("block 0", "  row 0 0", "  row 10 0", "  row 128 0", "  row 2147483647 0"))
	lookAtText(t, "a message's", least("Tag; Jump 3; Keep; Go 0", "End", "8 2; 133 3; 4294967293 2"),
		leastText("  dec 0 tag", "  dec 1 jump 3", "  dec 2 keep", "  dec 3 go 0", "  enc 0 end", "  row 8 2", "  row 133 3", "  row 4294967293 2"))
}

// TestP16_2Blocks has no block, and several: their numbers and places begin anew in each.
func TestP16_2Blocks(t *testing.T) {
	lookAtText(t, "none", plan.Program{}, "")
	lookAtText(t, "none, not nil", of([]plan.Block{}...), "")
	lookAtText(t, "a message without fields", of(block("Tag; Go 0", "End", "")), lines("block 0", "  dec 0 tag", "  dec 1 go 0", "  enc 0 end"))
	lookAtText(t, "two enums", of(plan.Block{Rows: rows("3 0")}, plan.Block{Rows: rows("0 0")}), lines("block 0", "  row 3 0", "block 1", "  row 0 0"))
	var want []string
	for i := range api.MaxTypes {
		want = append(want, "block "+strconv.Itoa(i), "  row 0 0")
	}
	lookAtText(t, "as many as can be", of(slices.Repeat(enum().Blocks, api.MaxTypes)...), lines(want...))
	lookAtNoText(t, "one more", lines(append(want, "block 128", "  row 0 0")...))
}

// TestP16_2Long has places of two and three digits.
func TestP16_2Long(t *testing.T) {
	b := block("Tag", "", "")
	dec, enc := []string{"  dec 0 tag"}, []string{}
	for at := range 105 {
		b.Dec, b.Enc = append(b.Dec, plan.Ins{Op: plan.Keep}), append(b.Enc, plan.Ins{Op: plan.Rest})
		dec, enc = append(dec, "  dec "+strconv.Itoa(at+1)+" keep"), append(enc, "  enc "+strconv.Itoa(at)+" rest")
	}
	b.Dec, b.Enc = append(b.Dec, plan.Ins{Op: plan.Go}), append(b.Enc, plan.Ins{Op: plan.End})
	lookAtText(t, "long lists", of(b), lines(slices.Concat([]string{"block 0"}, dec, []string{"  dec 106 go 0"}, enc, []string{"  enc 105 end"})...))
}

// TestP16_2Lowered has chapter 13's M, and chapter 14's.
func TestP16_2Lowered(t *testing.T) {
	p := lowered(t, em())
	lookAtText(t, "M", p, lines("block 0", "  row 0 0", "block 1",
		"  dec 0 tag", "  dec 1 case 8 5", "  dec 2 read 2", "  dec 3 set 1", "  dec 4 go 0", "  dec 5 case 16 9", "  dec 6 read 4", "  dec 7 add 2", "  dec 8 go 0",
		"  dec 9 case 18 12", "  dec 10 row 2 4 0", "  dec 11 go 0", "  dec 12 case 26 15", "  dec 13 msg 3 1 0", "  dec 14 go 0", "  dec 15 keep", "  dec 16 go 0",
		"  enc 0 has 1 3 2", "  enc 1 put 8", "  enc 2 val 2", "  enc 3 has 2 5 0", "  enc 4 run 18 4", "  enc 5 has 3 8 0", "  enc 6 put 26", "  enc 7 sub 1", "  enc 8 rest", "  enc 9 end"))
	lookAtText(t, "M optimised", better(t, p), lines("block 0", "  row 0 0", "block 1",
		"  dec 0 tag", "  dec 1 jump 10", "  dec 2 readset 2 1", "  dec 3 go 0", "  dec 4 readadd 4 2", "  dec 5 go 0", "  dec 6 row 2 4 0", "  dec 7 go 0", "  dec 8 msg 3 1 0", "  dec 9 go 0", "  dec 10 keep", "  dec 11 go 0",
		"  enc 0 has 1 2 2", "  enc 1 putval 8 2", "  enc 2 has 2 4 0", "  enc 3 run 18 4", "  enc 4 has 3 7 0", "  enc 5 put 26", "  enc 6 sub 1", "  enc 7 rest", "  enc 8 end",
		"  row 8 2", "  row 16 4", "  row 18 6", "  row 26 8"))
}

// spoiledLines looks at a text of two blocks, in which a line is another one: it is refused.
func spoiledLines(t *testing.T, at int, l ...string) {
	t.Helper()
	good := []string{"block 0", "  dec 0 tag", "  dec 1 jump 2", "  dec 2 set 10", "  dec 3 go 0", "  enc 0 has 1 1 0", "  enc 1 end", "  row 8 2", "  row 16 3", "block 1", "  row 0 0"}
	lookAtText(t, "good", of(block("Tag; Jump 2; Set 10; Go 0", "Has 1 1 0; End", "8 2; 16 3"), enum().Blocks[0]), lines(good...))
	for _, s := range l {
		spoiled := slices.Clone(good)
		spoiled[at] = s
		lookAtNoText(t, "line "+strconv.Itoa(at), lines(spoiled...))
	}
}

// TestP16_2Words has lines of other words, in all ways of spelling them.
func TestP16_2Words(t *testing.T) {
	spoiledLines(t, 0, "", "block", "block 1", "block 00", "block +0", "block -0", "block 0 ", " block 0", "  block 0", "block  0", "block\t0", "Block 0", "BLOCK 0", "block 0 0", "block x", "blocks 0", "bloc 0", "block0", "0 block", "block 0x0", "block 0\r", "block 4294967296", "block 18446744073709551616", "block 0;", "block 0:")
	spoiledLines(t, 1, "", "dec 0 tag", " dec 0 tag", "   dec 0 tag", "\tdec 0 tag", "  dec 0 Tag", "  dec 0 TAG", "  Dec 0 tag", "  dec 0 tag ", "  dec 0 tag 0", "  dec  0 tag", "  dec 0  tag", "  dec 0\ttag", "  dec 1 tag", "  dec 00 tag", "  dec +0 tag", "  dec -0 tag", "  dec tag", "  dec 0", "  dec", "  dec tag 0", "  enc 0 tag", "  row 0 tag", "  dec 0 tags", "  dec 0 ta", "  dec 0 1", "  dec 0 keep", "  dec 0 tag\r")
	spoiledLines(t, 2, "  dec 1 jump", "  dec 1 jump 2 0", "  dec 1 jump 02", "  dec 1 jump +2", "  dec 1 jump -2", "  dec 1 jump 2.0", "  dec 1 jump 0x2", "  dec 1 jump 2e0", "  dec 1 jump 0b10", "  dec 1 jump 1_0", "  dec 1 jump  2", "  dec 1 jump2", "  dec 1 jump 2,", "  dec 1 jump two", "  dec 2 jump 2", "  dec 0 jump 2", "  dec 01 jump 2", "  dec 1 case 2", "  dec 1 Jump 2", "  dec 1 jump \u0662", "  dec 1 jump\u00a02", "  dec 1 jump 4", "  dec 1 jump 1", "  dec 1 jump 18446744073709551618", "  dec 1 jump 4294967298")
	spoiledLines(t, 3, "  dec 2 set", "  dec 2 set 010", "  dec 2 set 1 0", "  dec 2 set 0", "  dec 2 set 10 0 0 0", "  dec 2 set 536870912", "  dec 2 set 99999999999999999999", "  dec 2 readset 10", "  dec 2 rest", "  dec 2 val 10", "  dec 2", "  dec 2 set -1", "  dec 2 set 10 ", "  enc 2 set 10")
	spoiledLines(t, 5, "  enc 0 has 1 1", "  enc 0 has 1 1 0 0", "  enc 0 has", "  enc 0 has 1", "  enc 0 Has 1 1 0", "  enc 1 has 1 1 0", "  enc 0 has 1 01 0", "  enc 0 has 1 1 00", "  enc 0 has 1  1 0", "  enc 0 has 1 1 0 ", "  enc 0 keep", "  dec 0 has 1 1 0", "  dec 4 has 1 1 0", "  dec 4 keep", "  Enc 0 has 1 1 0", "   enc 0 has 1 1 0", "enc 0 has 1 1 0")
	spoiledLines(t, 7, "", "row 8 2", " row 8 2", "   row 8 2", "  row 8", "  row", "  row 8 2 0", "  row 08 2", "  row 8 02", "  row +8 2", "  row 8 +2", "  row -8 2", "  row  8 2", "  row 8  2", "  row 8 2 ", "  Row 8 2", "  row 0 8 2", "  row 8 x", "  row x 2", "  row 8\t2", "  row 16 2", "  row 24 2", "  row 8 4", "  row 8 1", "  rows 8 2", "  enc 2 rest", "  dec 4 keep")
	spoiledLines(t, 9, "block 0", "block 2", "block 01", "block", "block 1 ", "  block 1", "  row 24 2", "block 1\n", "\nblock 1", "block 1\nblock 2", " block 1")
}

// TestP16_2Lines has lines that lack, that are one more, and that stand elsewhere.
func TestP16_2Lines(t *testing.T) {
	l := []string{"block 0", "  dec 0 tag", "  dec 1 go 0", "  enc 0 end", "block 1", "  row 0 0", "  row 1 0"}
	lookAtText(t, "good", of(block("Tag; Go 0", "End", ""), plan.Block{Rows: rows("0 0; 1 0")}), lines(l...))
	for at := range l {
		if at < 5 { // an enum with a row less is another one
			lookAtNoText(t, "a line less", lines(slices.Delete(slices.Clone(l), at, at+1)...))
		}
		lookAtNoText(t, "a line twice", lines(slices.Insert(slices.Clone(l), at, l[at])...))
		for other := range l {
			spoiled := slices.Clone(l)
			spoiled[at], spoiled[other] = l[other], l[at]
			if at != other {
				lookAtNoText(t, "lines in another order", lines(spoiled...))
			}
		}
		for _, more := range []string{"", " ", "  ", "\t", "x", "// a remark", "# a remark", "block 3", "  row 1", "  dec 2 keep", "  end", "\r", "\x00", "\ufeff"} {
			lookAtNoText(t, "a line more", lines(slices.Insert(slices.Clone(l), at, more)...))
			lookAtNoText(t, "a line more behind all", lines(append(slices.Clone(l), more)...))
		}
	}
	for _, s := range []string{"\n", " ", "  ", "\n\n", "\t", "\x00", "x", "block", "none", "\r\n", "  row 0 0\n", "  dec 0 tag\n", "  enc 0 end\n", "block 0\n", "block 0\n\n"} {
		lookAtNoText(t, "no program", s)
	}
}

// TestP16_2Ends has texts that are cut off, that have one more byte, and lines with other ends.
func TestP16_2Ends(t *testing.T) {
	for _, p := range someWritten(t)[1:5] {
		s := lines(linesAgain(p)...)
		for count := 1; count < len(s); count++ {
			if s[count-1] != '\n' { // cut behind a line there may be a program, of less
				lookAtNoText(t, "a beginning", s[:count])
			}
			lookAtNoText(t, "an end", s[count:])
		}
		lookAtNoText(t, "the last line without its end", s[:len(s)-1])
		for c := range 256 {
			lookAtNoText(t, "one more", s+string([]byte{byte(c)}))
			lookAtNoText(t, "one ahead", string([]byte{byte(c)})+s)
		}
		lookAtNoText(t, "twice", s+s)
		for _, end := range []string{"\r\n", "\r", " \n", "\n\n", "", " ", ";", "\v\n", "\u0085", "\u2028"} {
			lookAtNoText(t, "other ends", strings.ReplaceAll(s, "\n", end))
		}
		lookAtNoText(t, "no blanks ahead", strings.ReplaceAll(s, "\n  ", "\n"))
		lookAtNoText(t, "great letters", strings.ToUpper(s))
	}
}

// TestP16_2EachWord spells each word of texts otherwise: each number with a nought ahead or a sign, each name in great letters, each blank twice or as another one.
func TestP16_2EachWord(t *testing.T) {
	for _, p := range someWritten(t)[1:5] {
		s := lines(linesAgain(p)...)
		for at, c := range s {
			head, tail := s[:at], s[at:]
			isFirst := at == 0 || s[at-1] == ' ' || s[at-1] == '\n'
			switch {
			case c >= '0' && c <= '9' && isFirst:
				for _, sign := range []string{"0", "00", "+", "-", "0x", "_", "'"} {
					lookAtNoText(t, "a number with something ahead", head+sign+tail)
				}
			case c >= 'a' && c <= 'z':
				lookAtNoText(t, "a great letter", head+strings.ToUpper(string(c))+tail[1:])
				lookAtNoText(t, "a letter twice", head+string(c)+tail)
				lookAtNoText(t, "a letter less", head+tail[1:])
			case c == ' ':
				for _, other := range []string{"  ", "", "\t", "\u00a0", "\v", "\f", "\r", "\u2003", "\n"} {
					lookAtNoText(t, "another blank", head+other+tail[1:])
				}
			}
		}
	}
}
