package driver_test

import (
	"strconv"
	"strings"
	"testing"

	"cartouche/api"
	"cartouche/driver"
	"cartouche/quote"
	"cartouche/self"
)

// mark stands between lines, as in the chapter's tables.
const mark = " / "

// em are the chapter's two lines: they tell okEm.
const (
	em   = `file "a" "message M { int32 x = 1; repeated uint32 l = 2; M m = 3; }" / compile`
	okEm = `ok / types 1`
)

// quoted writes a text as a word.
func quoted(s string) string { return quote.Quote([]byte(s)) }

// file tells the line of a source.
func file(name, text string) string { return "file " + quoted(name) + " " + quoted(text) }

// bundle tells the lines of a bundle of one file: they tell ok and the number of types.
func bundle(text string) string { return file("a", text) + mark + "compile" }

// command tells a command's line.
func command(name string, args ...string) string {
	return strings.Join(append([]string{name}, args...), " ")
}

// lines joins scripts, or what is told of them.
func lines(l ...string) string { return strings.Join(l, mark) }

// times tells so many lines, each made of its number from 0 on.
func times(count int, line string) string {
	var l []string
	for i := range count {
		l = append(l, strings.ReplaceAll(line, "#", strconv.Itoa(i)))
	}
	return lines(l...)
}

// run tells what is told of a script that is taken: each line ended.
func run(t *testing.T, script string) string {
	t.Helper()
	told, e := driver.Run(script)
	if e != api.OK {
		t.Errorf("%.300q: error %d", script, e)
	}
	if told != "" && !strings.HasSuffix(told, "\n") {
		t.Errorf("%.300q: the last line has no end: %.300q", script, told)
	}
	return told
}

// brief tells the beginning and the end of what may be long.
func brief(s string) string {
	const most = 300
	if len(s) <= 2*most {
		return s
	}
	return s[:most] + " .. " + s[len(s)-most:]
}

// lookAt sees what is told of a script: of both the lines are joined.
func lookAt(t *testing.T, script, want string) {
	t.Helper()
	if want != "" {
		want += "\n"
	}
	lookAtText(t, strings.ReplaceAll(script, mark, "\n"), strings.ReplaceAll(want, mark, "\n"))
}

// lookAtText sees what is told of a script, byte for byte.
func lookAtText(t *testing.T, script, want string) {
	t.Helper()
	if got := run(t, script); got != want {
		t.Errorf("%s\ntells\n%s\nwant\n%s", brief(script), brief(got), brief(want))
	}
}

// lookAtEm has the chapter's two lines ahead of a script.
func lookAtEm(t *testing.T, script, want string) {
	t.Helper()
	all := okEm
	if want != "" {
		all = lines(okEm, want)
	}
	lookAt(t, lines(em, script), all)
}

// row is a script, and what is told of it.
type row struct{ script, want string }

func lookAtRows(t *testing.T, look func(t *testing.T, script, want string), l ...row) {
	t.Helper()
	for _, r := range l {
		look(t, r.script, r.want)
	}
}

// refused sees that Run answers that error, and tells nothing beside.
func refused(t *testing.T, script string, want api.Errno) {
	t.Helper()
	if told, e := driver.Run(script); told != "" || e != want {
		t.Errorf("%d bytes, %.60q ..: %.60q, error %d; want error %d", len(script), script, told, e, want)
	}
}

// described tells a line that has a table taken as bytes: such a table need not come from a file.
func described(t *testing.T, x api.Table) string {
	t.Helper()
	return "unpack " + hexOf(packed(t, x))
}

func packed(t *testing.T, x api.Table) []byte {
	t.Helper()
	b, e := self.Pack(x)
	if e != api.OK {
		t.Fatalf("Pack: error %d", e)
	}
	return b
}
