package driver_test

import (
	"slices"
	"strings"
	"testing"

	"cartouche/api"
	"cartouche/samples"
)

// wrongArguments tells words of a command's form behind which something else is wrong: no type has the name, or the bytes end too early; no field has the name.
func wrongArguments(form string) []string {
	var out []string
	for _, c := range form {
		out = append(out, map[rune]string{'n': "M", 'h': "08", 'q': `"y:1"`, 'p': "y"}[c])
	}
	return out
}

// TestP20_2Commands has first words that are no command, whatever stands behind them, with a table and without.
func TestP20_2Commands(t *testing.T) {
	words := []string{"foo", "type", "typess", "-", "decode-", "de", "run", "M", "00", "x#", ".", "\\", "'types'", `""`, `"`, "\x00", "\xff", "types\u200b"}
	for name := range forms {
		words = append(words, strings.ToUpper(name), strings.ToUpper(name[:1])+name[1:], name+"x", name[1:], quoted(name), name+`"`, name+"\x00", "x"+name, name[:len(name)-1])
	}
	for _, word := range words {
		for _, behind := range []string{"", " M", " M 08", " M 0805", ` "a" ""`, " -", " x y z", ` M "x:5"`} {
			lookAt(t, word+behind, "error 11")
			lookAtEm(t, "keep / "+word+behind, "ok / error 11")
		}
	}
}

// TestP20_2Counts has each command with too few words and with too many: that goes ahead of all else that is wrong.
func TestP20_2Counts(t *testing.T) {
	for name, form := range forms {
		args := wrongArguments(form)
		var wrong [][]string
		for count := range args {
			wrong = append(wrong, args[:count], args[len(args)-count:])
		}
		for _, more := range []string{"-", "M", "00", `""`, "x", "#", "08"} {
			for at := range len(args) + 1 {
				wrong = append(wrong, slices.Insert(slices.Clone(args), at, more))
			}
			wrong = append(wrong, append(slices.Clone(args), more, more), append(slices.Clone(args), args...), append(append(slices.Clone(args), args...), `"`))
		}
		for _, l := range wrong {
			if len(l) == len(args) {
				continue
			}
			line := command(name, l...)
			lookAt(t, line, "error 11")
			lookAtEm(t, lines("keep", line, "types", "diff"), "ok / error 11 / M / same 0")
		}
	}
}

// TestP20_2Forms has each word of a command that must be quoted, or hex, as something else, whatever else is wrong.
func TestP20_2Forms(t *testing.T) {
	wrong := map[rune][]string{
		'q': {`a`, `-`, `08`, `'a'`, `a"b"`, `\"a\"`, `"\q"`, `"\x4"`, `"\xg0"`, `"\X41"`, `"\u0041"`, `"\"`, `"\0"`},
		'h': {`M`, `0`, `080`, `0g`, `"08"`, `""`, `--`, `+8`, `0x08`, `08-`},
	}
	for name, form := range forms {
		for at, c := range form {
			for _, word := range wrong[c] {
				args := wrongArguments(form)
				args[at] = word
				if strings.HasPrefix(form, "n") {
					args[0] = "N"
				}
				line := command(name, args...)
				lookAt(t, line, "error 11")
				lookAtEm(t, lines(line, "types"), "error 11 / M")
			}
		}
	}
	for _, word := range []string{`"`, `"a`, `"a\"`, `"a\\\"`, `"a b`} { // those without an end can be the last ones alone
		lookAtEm(t, lines(`encode N `+word, `file "b" `+word, `compile`), `error 11 / error 11 / types 1`)
	}
}

// TestP20_2Limit has as many sources as can be, and one more.
func TestP20_2Limit(t *testing.T) {
	const source = `file "#" "message M# { }"`
	all := strings.ReplaceAll(times(api.MaxFiles, "M#"), mark, " ")
	full, told := times(api.MaxFiles, source), times(api.MaxFiles, "ok")
	lookAtRows(t, lookAt,
		row{lines(full, "compile", "types"), lines(told, "types 16", all)},
		row{lines(full, `file "16" "message N { }"`, `file "" ""`, "compile", "types"), lines(told, "error 17", "error 17", "types 16", all)},
		row{lines(full, `file "x" "message N { }"`, `file "3" "message N { }"`, `file "15" ""`, `file "x" ""`, "compile", "types"), lines(told, "error 17", "ok", "ok", "error 17", "types 15", strings.Replace(strings.Replace(all, "M3", "N", 1), " M15", "", 1))},
		row{lines(full, `file "x"`, `file "x" "" ""`, `file "x" a`, `file x ""`, `file "x" "\q"`, `file "x" "`), lines(told, times(6, "error 11"))},
		row{lines(full, "unpack -", `file "x" ""`, "keep", `file "x" ""`, "types"), lines(told, "types 0", "error 17", "ok", "error 17", "")},
		row{lines(times(15, source), `file "0" "foo"`, `file "15" ""`, `file "16" ""`, "compile"), lines(times(17, "ok"), "error 17", "error 11 1 1 1")},
	)
}

// TestP20_2None has what is not there: a table, an old one, a type of a name. That goes ahead of what is wrong with bytes, texts and paths.
func TestP20_2None(t *testing.T) {
	for name, form := range forms {
		if name == "file" || name == "compile" || name == "unpack" {
			continue
		}
		line := command(name, wrongArguments(form)...)
		lookAt(t, lines(line, line), "error 20 / error 20")
		lookAt(t, lines(`file "a" "message M { }"`, line, `file "a" "foo"`, "compile", line, "unpack 08", line), "ok / error 20 / ok / error 11 1 1 1 / error 20 / error 3 / error 20")
		if name == "diff" || name == "through" {
			lookAtEm(t, lines(line, "unpack 0a030a014d", line, "compile", line), "error 20 / types 1 / error 20 / types 1 / error 20")
		}
		if !strings.HasPrefix(form, "n") {
			continue
		}
		types := bundle(`enum E { A = 0; } message L { message M { } enum F { A = 0; } }`)
		for _, other := range []string{"M", "N", "E", "L.F", "F", "A", "l", "L.", ".L", "L.M.M", "L.m", "M.L", "-", "0", `"L"`, `""`, "L,", "x", "L\x00", "\xff", "L#", "int32"} {
			args := wrongArguments(form)
			args[0] = other
			lookAt(t, lines(types, "keep", command(name, args...)), "ok / types 4 / ok / error 20")
		}
		for _, own := range []string{"L", "L.M"} {
			args := wrongArguments(form)
			args[0] = own
			want := map[bool]string{true: "error 12", false: "error 3"}[name == "encode"]
			lookAt(t, lines(types, "keep", command(name, args...)), "ok / types 4 / ok / "+want)
		}
	}
}

// TestP20_2Called has several things wrong of those that are asked behind all else: the first one is told.
func TestP20_2Called(t *testing.T) {
	lookAtRows(t, lookAtEm,
		row{`merge M 08 0b / merge M 0b 08 / merge M 00 08 / merge M 08 00 / merge M 0801 00`, `error 3 / error 6 / error 5 / error 3 / error 5`},
		row{`mask M 08 y / mask M 0b y / mask M 0801 y`, `error 3 / error 6 / error 12`},
		row{`encode M "y:1 x:99999999999" / encode M "x:99999999999 y:1" / encode M "x:99999999999999999999 y:1" / encode M "y:1 #"`, `error 12 / error 7 / error 7 / error 11`},
		row{`decode M 080108 / decode M 08010b08 / decode M 0801000b / decode M 1201ff0b`, `error 3 / error 6 / error 5 / error 3`},
	)
	// What is read well, and has too long a text, or too many bytes when it is written.
	text := strings.Repeat("00", api.MaxText/4)
	long := hexOf(samples.Join(samples.Tag(4, api.Chunk), samples.Digits(uint64(len(text)/2)))) + text
	for _, r := range []row{{"decode M " + long, "error 1"}, {"interp M " + long, "error 1"}, {"mask M " + long + " s", "error 1"}, {"mask M " + long + " s,y", "error 12"}, {"mask M " + long + " x", ""}, {"mask M " + long + "08 s", "error 3"}, {"decode M " + long + "08", "error 3"}} {
		want := lines("ok", "types 1", r.want)
		lookAt(t, lines(bundle(`message M { int32 x = 1; bytes s = 4; }`), r.script), want)
	}
	list := hexOf(samples.Join(samples.Tag(api.MaxNumber, api.Chunk), samples.Framed(make([]byte, 11000))))
	const one = `message M { repeated int32 l = 536870911 [packed = false]; }`
	for _, r := range []row{{"merge M " + list + " -", "error 1"}, {"merge M " + list + " 08", "error 3"}, {"merge M - " + list, "error 1"}, {"settle M " + list, "error 1"}, {"settle M " + list + "08", "error 3"}, {"through M " + list, "error 1"}, {"through M " + list + "0b", "error 6"}} {
		lookAt(t, lines(bundle(one), "keep", r.script), lines("ok", "types 1", "ok", r.want))
	}
	lookAt(t, lines(bundle(`message N { }`), "keep", bundle(one), "through M "+list, "through M "+list+"08"), "ok / types 1 / ok / ok / types 1 / error 20 / error 3")
}

// TestR3Refused has lines that are refused: what is told behind them is as if they had not been there.
func TestR3Refused(t *testing.T) {
	behind := lines("types", "decode M 0805", "diff", "through M 0805", "pack", "program", "compile", "types", "diff")
	_, want := told(t, lines(em, "keep", file("b", "message B { }"), behind))
	for _, wrong := range []string{
		`foo`, `keep x`, `compile x`, `file "b"`, `file "b" ""x`, `file "a" b`, `file "a" "\q"`, `unpack 08`, `unpack 0a00`, `unpack 0`, `unpack - -`, `decode M 08`, `decode N -`, `encode M "x:"`, `merge M 0806 08`, `mask M 0806 y`, `settle M 0b`, `through N -`, `types x`, `diff x`, `pack x`, `program x`,
	} {
		ahead, got := told(t, lines(em, "keep", file("b", "message B { }"), wrong, behind))
		if !slices.Equal(got[1:], want) || !strings.HasPrefix(got[0], "error ") {
			t.Errorf("behind %s: %q, then %q; want %q", wrong, ahead, got, want)
		}
	}
	lookAtRows(t, lookAt,
		row{`keep / compile / diff`, `error 20 / types 0 / error 20`},
		row{em + ` / file "b" "foo" / compile / types / file "b" "" / compile / types`, okEm + ` / ok / error 11 2 1 1 / M / ok / types 1 / M`},
		row{em + ` / file "a" "foo" / compile / decode M 0805 / compile / decode M 0805 / keep / diff / unpack 0a00 / decode M 0805`, okEm + ` / ok / error 11 1 1 1 / x : 5 / error 11 1 1 1 / x : 5 / ok / same 0 / error 18 / x : 5`},
		row{lines(times(16, `file "#" ""`), `file "16" "foo"`, "compile", `file "16" "foo"`, "compile"), lines(times(16, "ok"), "error 17", "types 0", "error 17", "types 0")},
	)
}

// told tells what is told of a script ahead of its fourth line, and from there on.
func told(t *testing.T, script string) (ahead, behind []string) {
	t.Helper()
	l := strings.Split(strings.TrimSuffix(run(t, strings.ReplaceAll(script, mark, "\n")), "\n"), "\n")
	return l[:4], l[4:]
}

// TestR3Chance takes the refused lines out of many scripts: of the others is told what was.
func TestR3Chance(t *testing.T) {
	m := samples.New(2021)
	out := 0
	for range 600 {
		all := someLines(m)
		left := slices.DeleteFunc(slices.Clone(all), func(x spoken) bool { return strings.HasPrefix(x.told, "error ") && m.Below(4) > 0 })
		lookAtText(t, scriptOf(left), toldOf(left))
		out += len(all) - len(left)
	}
	if out < 3000 {
		t.Errorf("%d lines are refused", out)
	}
}
