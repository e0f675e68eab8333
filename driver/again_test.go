package driver_test

import (
	"encoding/hex"
	"fmt"
	"hash/fnv"
	"regexp"
	"slices"
	"strings"

	"cartouche/api"
	"cartouche/check"
	"cartouche/code"
	"cartouche/evolve"
	"cartouche/interp"
	"cartouche/merge"
	"cartouche/model"
	"cartouche/opt"
	"cartouche/plan"
	"cartouche/quote"
	"cartouche/self"
	"cartouche/table"
	"cartouche/text"
	"cartouche/vm"
)

// The chapter a second time: words by a pattern, forms by letters; messages are read and written by the interpreter (T1), merged by reading one string of bytes behind the other (T4), sent through the old table by writing and reading, and a table goes to bytes and back as a message (T6).

// wordForm is a word: a quoted one with its end, or to the line's end, or another one.
var wordForm = regexp.MustCompile(`"(?s:[^"\\]|\\.)*(?:"|\\?$)|[^ \t\r"][^ \t\r]*`)

// linesOf tells a script's lines, without their ends.
func linesOf(script string) []string {
	l := strings.Split(script, "\n")
	if last := len(l) - 1; l[last] == "" {
		l = l[:last]
	}
	return l
}

// wordsOf tells a line's words: none, if it is passed over.
func wordsOf(line string) []string {
	words := wordForm.FindAllString(line, -1)
	if len(words) > 0 && words[0][0] == '#' {
		return nil
	}
	return words
}

// forms tells of each command which words it has behind its name: n a name, h hex, q quoted, p paths.
var forms = map[string]string{
	"file": "qq", "compile": "", "keep": "", "types": "", "decode": "nh", "interp": "nh", "encode": "nq", "merge": "nhh", "mask": "nhp",
	"settle": "nh", "steps": "nh", "program": "", "pack": "", "unpack": "h", "diff": "", "through": "nh",
}

// valueOf tells what a word of a form stands for: hex and quoted words, for bytes.
func valueOf(form rune, word string) (string, bool) {
	switch form {
	case 'q':
		b, e := quote.Unquote(word)
		return string(b), e == api.OK
	case 'h':
		if word == "-" {
			return "", true
		}
		b, err := hex.DecodeString(word)
		return string(b), err == nil
	}
	return word, true
}

func hexOf(b []byte) string {
	if len(b) == 0 {
		return "-"
	}
	return hex.EncodeToString(b)
}

// again is what is there between two lines.
type again struct {
	sources    []api.Source
	table, old *api.Table
}

func coded(e api.Errno) api.Fault { return api.Fault{Code: e} }

// script tells what is told of a script.
func (a *again) script(s string) string {
	var told strings.Builder
	for _, line := range linesOf(s) {
		if words := wordsOf(line); len(words) > 0 {
			told.WriteString(a.line(words) + "\n")
		}
	}
	return told.String()
}

// line tells what is told of a line that is not passed over.
func (a *again) line(words []string) string {
	form, ok := forms[words[0]]
	args := words[1:]
	ok = ok && len(args) == len(form)
	var values []string
	for i, c := range form {
		if ok {
			var value string
			value, ok = valueOf(c, args[i])
			values = append(values, value)
		}
	}
	if !ok {
		return "error 11"
	}
	told, f := a.asked(words[0], values)
	switch {
	case f.Code == api.OK:
		return told
	case words[0] == "compile":
		return fmt.Sprintf("error %d %d %d %d", f.Code, f.File, f.Line, f.Col)
	}
	return fmt.Sprintf("error %d", f.Code)
}

// asked does a command of which all words have their form.
func (a *again) asked(name string, args []string) (string, api.Fault) {
	switch name {
	case "file":
		return "ok", a.source(api.Source{Name: args[0], Text: args[1]})
	case "compile":
		x, f := check.Compile(slices.Clone(a.sources))
		return a.taken(x, f)
	case "unpack":
		m, e := interp.Decode(self.Meta(), 0, []byte(args[0]))
		if e != api.OK {
			return "", coded(e)
		}
		x, e := self.FromMsg(m)
		return a.taken(x, coded(e))
	}
	if a.table == nil || a.old == nil && (name == "diff" || name == "through") {
		return "", coded(api.ErrNone)
	}
	if strings.HasPrefix(forms[name], "n") {
		i := slices.IndexFunc(a.table.Types, func(x api.Type) bool { return x.Name == args[0] && !x.Enum })
		if i < 0 {
			return "", coded(api.ErrNone)
		}
		return a.ofMessages(name, i, args[1:])
	}
	return a.ofTable(name)
}

func (a *again) source(s api.Source) api.Fault {
	for i, o := range a.sources {
		if o.Name == s.Name {
			a.sources[i] = s
			return api.Fault{}
		}
	}
	if len(a.sources)+1 > api.MaxFiles {
		return coded(api.ErrLimit)
	}
	a.sources = append(a.sources, s)
	return api.Fault{}
}

func (a *again) taken(x api.Table, f api.Fault) (string, api.Fault) {
	if f.Code == api.OK {
		a.table = &x
	}
	return fmt.Sprintf("types %d", len(x.Types)), f
}

func (a *again) program() (lowered, optimised plan.Program) {
	lowered, _ = plan.Lower(*a.table)
	optimised, _ = opt.Program(lowered)
	return lowered, optimised
}

func (a *again) ofTable(name string) (string, api.Fault) {
	switch name {
	case "keep":
		a.old = a.table
		return "ok", api.Fault{}
	case "types":
		var l []string
		for _, x := range a.table.Types {
			l = append(l, x.Name)
		}
		return strings.Join(l, " "), api.Fault{}
	case "pack":
		m, _ := self.ToMsg(*a.table)
		b, e := interp.Encode(self.Meta(), 0, m)
		return hexOf(b), coded(e)
	case "diff":
		l, class, e := evolve.Diff(*a.old, *a.table)
		return fmt.Sprintf("%s %d", map[int]string{1: "same", 2: "additive", 3: "widening", 4: "breaking"}[class], len(l)), coded(e)
	}
	_, p := a.program()
	b, _ := code.Bytes(p)
	sum, count := fnv.New64a(), 0
	sum.Write(b)
	for _, x := range p.Blocks {
		count += len(x.Dec) + len(x.Enc) + len(x.Rows)
	}
	return fmt.Sprintf("%d %d", sum.Sum64(), count), api.Fault{}
}

// ofMessages does what is done with messages of one type.
func (a *again) ofMessages(name string, i int, args []string) (string, api.Fault) {
	x := *a.table
	if name == "encode" {
		m, f := text.Parse(x, i, args[0])
		if f.Code != api.OK {
			return "", coded(f.Code)
		}
		return a.written(i, m)
	}
	m, e := interp.Decode(x, i, []byte(args[0]))
	if e == api.OK && name == "merge" {
		if _, e = interp.Decode(x, i, []byte(args[1])); e == api.OK {
			m, e = interp.Decode(x, i, []byte(args[0]+args[1]))
		}
	}
	if e != api.OK {
		return "", coded(e)
	}
	switch name {
	case "merge":
		return a.written(i, m)
	case "settle":
		m, _ = model.Settle(x, i, m)
		return a.written(i, m)
	case "through":
		return a.through(i, m)
	case "steps":
		lowered, optimised := a.program()
		n, _ := vm.Steps(lowered, i, []byte(args[0]))
		better, _ := vm.Steps(optimised, i, []byte(args[0]))
		return fmt.Sprintf("%d %d", n, better), api.Fault{}
	case "mask":
		if m, e = merge.Keep(x, i, m, strings.Split(args[1], ",")); e != api.OK {
			return "", coded(e)
		}
	}
	s, e := text.Print(x, i, m)
	return s, coded(e)
}

func (a *again) written(i int, m api.Msg) (string, api.Fault) {
	b, e := interp.Encode(*a.table, i, m)
	return hexOf(b), coded(e)
}

// through goes to the old table and back, and then to bytes.
func (a *again) through(i int, m api.Msg) (string, api.Fault) {
	j, e := table.Find(*a.old, a.table.Types[i].Name)
	if e != api.OK || a.old.Types[j].Enum {
		return "", coded(api.ErrNone)
	}
	b, e := interp.Encode(*a.table, i, m)
	if e == api.OK {
		m, e = interp.Decode(*a.old, j, b)
	}
	if e == api.OK {
		b, e = interp.Encode(*a.old, j, m)
	}
	if e == api.OK {
		m, e = interp.Decode(*a.table, i, b)
	}
	if e != api.OK {
		return "", coded(e)
	}
	return a.written(i, m)
}
