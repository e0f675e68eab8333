package driver_test

import (
	"slices"
	"strings"
	"sync"
	"testing"
	"time"

	"cartouche/api"
	"cartouche/driver"
	"cartouche/samples"
)

// lookAgain holds what is told of any text against the chapter's second reading.
func lookAgain(t *testing.T, script string) {
	t.Helper()
	switch {
	case len(script) > api.MaxText:
		refused(t, script, api.ErrTooBig)
	case len(linesOf(script)) > api.MaxLines:
		refused(t, script, api.ErrLimit)
	default:
		lookAtText(t, script, new(again).script(script))
	}
}

// spoilt tells a script with some of its bytes changed, cut off, or said again.
func spoilt(m *samples.Maker, script string) string {
	for range 1 + m.Below(4) {
		at, to := m.Below(len(script)+1), m.Below(len(script)+1)
		switch m.Below(5) {
		case 0:
			script = script[:at]
		case 1:
			script = script[at:]
		case 2:
			script = script[:min(at, to)] + script[max(at, to, min(at+20, len(script))):]
		case 3:
			script = script[:at] + script[min(at, to):max(at, to)] + script[at:]
		default:
			script = script[:at] + samples.Pick(m, "\"", "\\", "\n", " ", "\t", "\r", "#", "-", "0", "a", "\x00", "\xff", "\xc3", "\"\n\"", string([]byte{byte(m.Below(256))})) + script[at:]
		}
	}
	return script
}

// TestR1R2Spoilt has scripts with some bytes changed: none panics, and what is told is the chapter's.
func TestR1R2Spoilt(t *testing.T) {
	m := samples.New(2041)
	for range 1000 {
		lookAgain(t, spoilt(m, scriptOf(someLines(m))))
	}
}

// TestR1Cut has a script that is cut off behind each of its bytes.
func TestR1Cut(t *testing.T) {
	script := strings.ReplaceAll(lines(em, "keep", `decode M 0805`, `encode M "x:5 l[1 2] ? 9 - 2 : \"\\x00\\\\\""`, "mask M 0801 x,m.x", `file "b" "import \"a\"; message N { }"`, "compile", "diff", "pack", "# the end", "types"), mark, "\n")
	for at := range len(script) + 1 {
		lookAgain(t, script[:at])
		lookAgain(t, script[at:])
	}
}

// TestR1Short has all texts of two bytes, and many of a few more.
func TestR1Short(t *testing.T) {
	for one := range 256 {
		lookAgain(t, string([]byte{byte(one)}))
		for two := range 256 {
			lookAgain(t, string([]byte{byte(one), byte(two)}))
		}
	}
	const few = "\"\\ \n#-0\t\r"
	for i := range len(few) * len(few) * len(few) * len(few) {
		k := len(few)
		word := string([]byte{few[i%k], few[i/k%k], few[i/k/k%k], few[i/k/k/k]})
		lookAgain(t, word)
		lookAgain(t, "unpack"+word+"\nkeep "+word+"types\nfile"+word+"x"+word)
	}
}

// TestR1Wild has bytes of anything, and of commands' names and the signs of words.
func TestR1Wild(t *testing.T) {
	m := samples.New(2042)
	parts := []string{" ", " ", " ", "\n", "\n", "\"", "\"", "\\", "#", "-", "M", "0805", "08", "x", `""`, `"x:1"`, `"message M { int32 x = 1; }"`, "\t", "\r", "\xff"}
	for name := range forms {
		parts = append(parts, name+" ")
	}
	slices.Sort(parts)
	for range 6000 {
		var b strings.Builder
		for range m.Below(60) {
			if m.Below(6) == 0 {
				b.WriteByte(byte(m.Below(256)))
			} else {
				b.WriteString(samples.Pick(m, parts...))
			}
		}
		lookAgain(t, b.String())
	}
}

// TestR1Long has texts that are far too great: they are refused at once.
func TestR1Long(t *testing.T) {
	begin := time.Now()
	long := strings.Repeat("decode M \"\\\n", 1<<22)
	for range 1000 {
		refused(t, long, api.ErrTooBig)
	}
	if spent := time.Since(begin); spent > 10*time.Second {
		t.Errorf("that took %v", spent)
	}
}

// TestR1Big has scripts that are as great as can be: many lines that ask a great table, long words, long answers. Each ends soon.
func TestR1Big(t *testing.T) {
	begin := time.Now()
	table := bundle(great())
	for _, line := range []string{"compile", "types", "pack", "program", "diff", "keep", "decode M0 -", "interp M0 -", "steps M0 -", "through M0 -", `encode M0 ""`, "merge M0 - -", "mask M0 - f1", "settle M0 -", "foo", `file "a" ""`, "unpack -"} {
		script := lines(table, "keep", times(60, line))
		if told := run(t, strings.ReplaceAll(script, mark, "\n")); strings.Count(told, "\n") != 63 {
			t.Errorf("%s: %s", line, brief(told))
		}
	}
	head := strings.ReplaceAll(bundle("message M { repeated int32 l = 1; M m = 2; map<uint32, M> k = 3; string s = 4; }"), mark, "\n") + "\n"
	fill := func(ahead, one, behind string) {
		script := head + ahead + strings.Repeat(one, (api.MaxText-len(head+ahead+behind))/len(one)) + behind
		lookAgain(t, script)
	}
	for _, row := range [][3]string{
		{"decode M ", "0801", ""}, {"decode M ", "2200", ""}, {"decode M ", "1a00", ""}, {"interp M ", "120", "0"}, {"mask M - ", "m,", "m"}, {"mask M - ", "m.", "m"}, {"mask M 12041202120012021200 ", "m.m.m.m.l,", "l"}, {"mask M - ", ",", ""}, {`encode M "`, "m{", `"`}, {`encode M "l[`, "1 ", `]"`}, {`encode M "k<`, "{", `"`}, {"merge M - ", "0801", ""},
		{"steps M ", "0801", ""}, {"settle M ", "1a00", ""}, {"unpack ", "0a00", ""}, {"unpack ", "0a030a0141", ""}, {`file "x" "`, `\"`, `"`}, {`file "x" "`, `x`, ""}, {"", `"`, ""}, {"", `"\`, ""}, {"", `"" `, ""}, {"x", `\`, ""}, {"types", " ", ""}, {"types ", "x ", ""}, {"#", "\xff", ""}, {"decode ", "M", " -"}, {"decode M ", "g", ""}, {"decode M ", "0", ""},
	} {
		fill(row[0], row[1], row[2])
	}
	if spent := time.Since(begin); spent > 40*time.Second {
		t.Errorf("all that took %v", spent)
	}
}

// TestR5Many plays scripts from many goroutines at a time.
func TestR5Many(t *testing.T) {
	scripts, want := someScripts(samples.New(2043), 60)
	var group sync.WaitGroup
	for worker := range 8 {
		group.Go(func() {
			for step := range 60 {
				i := (7*worker + step) % len(scripts)
				if told, e := driver.Run(scripts[i]); told != want[i] || e != api.OK {
					t.Errorf("%s\ntells\n%s, error %d\nwant\n%s", brief(scripts[i]), brief(told), e, brief(want[i]))
				}
			}
		})
	}
	group.Wait()
}

// TestR2R6Run has texts with both faults of Run: nothing is told beside an error, and the first one is told.
func TestR2R6Run(t *testing.T) {
	const line = "compile\n"
	for _, count := range []int{api.MaxLines, api.MaxLines + 1, api.MaxText / len(line), api.MaxText/len(line) + 1} {
		script := strings.Repeat(line, count)
		switch {
		case len(script) > api.MaxText:
			refused(t, script, api.ErrTooBig)
		case count > api.MaxLines:
			refused(t, script, api.ErrLimit)
		default:
			lookAtText(t, script, strings.Repeat("types 0\n", count))
		}
	}
}
