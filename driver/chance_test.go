package driver_test

import (
	"maps"
	"slices"
	"strconv"
	"strings"
	"testing"

	"cartouche/api"
	"cartouche/interp"
	"cartouche/merge"
	"cartouche/samples"
	"cartouche/self"
	"cartouche/text"
)

// writer writes scripts by chance: line by line, each by what is there then.
type writer struct {
	*samples.Maker
	again  again
	drafts []api.Table // what the next files are of
	lines  []spoken
	size   int
}

// spoken is a line: its words (none, if it is passed over), how it is written, and what is told of it.
type spoken struct {
	words      []string
	line, told string
}

// scriptOf tells the lines as they are written.
func scriptOf(l []spoken) string {
	var b strings.Builder
	for _, x := range l {
		b.WriteString(x.line + "\n")
	}
	return b.String()
}

// toldOf tells what is told of them.
func toldOf(l []spoken) string {
	var b strings.Builder
	for _, x := range l {
		if len(x.words) > 0 {
			b.WriteString(x.told + "\n")
		}
	}
	return b.String()
}

// someLines tells a script's lines; the tables in it have much in common.
func someLines(m *samples.Maker) []spoken {
	w := writer{Maker: m}
	w.drafts = append(w.drafts, m.SomeTable())
	if m.Below(2) == 0 {
		old, new := m.TwoTables()
		w.drafts = []api.Table{old, new, samples.GoodTable(func() api.Table { return m.Evolved(new) })}
	}
	if m.Below(8) > 0 {
		w.add("file", `"a"`, quoted(samples.File(w.drafts[0])))
		w.add("compile")
	}
	for range 10 + m.Below(30) {
		switch m.Below(12) {
		case 0:
			w.say(samples.Pick(m, "", " ", "\t\r ", "# ", "#decode M 00", "\t # \"", "#\xff"))
		case 1:
			w.add(w.bentWords(w.someWords())...)
		case 2:
			w.add("keep")
			w.add("file", `"a"`, quoted(samples.File(w.draft())))
			w.add("compile")
			w.add("diff")
			w.add(w.messageWords("through")...)
		default:
			w.add(w.someWords()...)
		}
	}
	return w.lines
}

// add adds a line of these words.
func (w *writer) add(words ...string) { w.say(strings.Join(words, " ")) }

// say adds a line, if there is room, and notes what is told of it.
func (w *writer) say(line string) {
	if w.size += len(line) + 1; w.size > api.MaxText/2 {
		return
	}
	x := spoken{words: wordsOf(line), line: line}
	if len(x.words) > 0 {
		x.told = w.again.line(x.words)
	}
	w.lines = append(w.lines, x)
}

// someWords tells those of a command, all of their form.
func (w *writer) someWords() []string {
	name := samples.Pick(w.Maker, slices.Sorted(maps.Keys(forms))...)
	switch name {
	case "file":
		return w.fileWords()
	case "unpack":
		return []string{name, hexOf(w.tableBytes())}
	}
	return w.messageWords(name)
}

func (w *writer) draft() api.Table { return samples.Pick(w.Maker, w.drafts...) }

// fileWords tells a source that is mostly accepted, by itself or with another one.
func (w *writer) fileWords() []string {
	text := samples.File(w.draft())
	switch w.Below(12) {
	case 0:
		text = "import " + quoted(samples.Pick(w.Maker, "a", "b", "c")) + "; " + text
	case 1:
		at := w.Below(len(text) + 1)
		text = text[:at] + samples.Pick(w.Maker, "}", " x ", "\"", "9") + text[at:]
	case 2:
		text = samples.Pick(w.Maker, "", "message", "import \"a\"; message Z { }", "message Y { Y y = 1; }", "message M { int32 x = 0; }", "message X { Foo f = 1; }")
	}
	name := samples.Pick(w.Maker, "a", "a", "a", "b", "", "c \"\n")
	if w.Below(40) == 0 {
		name = strconv.Itoa(w.Below(30))
	}
	return []string{"file", quoted(name), quoted(text)}
}

func (w *writer) tableBytes() []byte {
	b, e := self.Pack(w.draft())
	if e != api.OK || w.Below(4) == 0 {
		b = w.Bent(b)
	}
	return b
}

// messageWords tells a command's name, and words of its form: mostly of a message's type of the table.
func (w *writer) messageWords(name string) []string {
	var x api.Table
	if w.again.table != nil {
		x = *w.again.table
	}
	var messages []int
	for i, y := range x.Types {
		if !y.Enum {
			messages = append(messages, i)
		}
	}
	if len(messages) == 0 {
		x, messages = samples.Small(), []int{1}
	}
	i := samples.Pick(w.Maker, messages...)
	out := []string{name}
	for _, c := range forms[name] {
		word := ""
		switch c {
		case 'n':
			word = x.Types[i].Name
			if w.Below(12) == 0 {
				word = w.nameWord(x)
			}
		case 'h':
			word = hexOf(w.messageBytes(x, i))
		case 'q':
			word = quoted(w.messageText(x, i))
		case 'p':
			word = w.paths(x, i)
		}
		out = append(out, word)
	}
	return out
}

// nameWord tells a name as a word.
func (w *writer) nameWord(x api.Table) string {
	return "x" + strings.Trim(w.AnyName(x), " \"")
}

func (w *writer) messageBytes(x api.Table, i int) []byte {
	b := w.Bytes(x, i, 2)
	if w.Below(3) > 0 {
		b, _ = interp.Encode(x, i, w.Message(x, i, 3))
	}
	if w.Below(7) == 0 {
		b = w.Bent(b)
	}
	return b
}

func (w *writer) messageText(x api.Table, i int) string {
	s, _ := text.Print(x, i, w.Message(x, i, 3))
	if w.Below(6) == 0 {
		at := w.Below(len(s) + 1)
		s = s[:at] + samples.Pick(w.Maker, "9", " f1:1 ", "}", "x", "\n//", "99999999999999999999") + s[at:]
	}
	return s
}

func (w *writer) paths(x api.Table, i int) string {
	l, _ := merge.Paths(x, i, w.Message(x, i, 3))
	for len(l) > 1 && w.Below(2) == 0 {
		at := w.Below(len(l))
		l = slices.Delete(l, at, at+1)
	}
	if len(l) == 0 || w.Below(10) == 0 {
		l = append(l, samples.Pick(w.Maker, "f1", "x", "l", "m.x", ".", "f1.f2", "o1"))
	}
	return strings.Join(l, ",")
}

// bentWords tells words with one thing changed, so that they need not have their form.
func (w *writer) bentWords(words []string) []string {
	at := w.Below(len(words))
	one := words[at]
	cut := w.Below(len(one) + 1)
	switch w.Below(7) {
	case 0:
		return append(slices.Clone(words[:at]), words[at+1:]...)
	case 1:
		return slices.Insert(slices.Clone(words), at, samples.Pick(w.Maker, "-", "M", `""`, "00", one))
	case 2:
		return append(slices.Clone(words), samples.Pick(w.Maker, "-", "M", `""`, "00", "#", one))
	case 3:
		one = strings.ToUpper(one)
	case 4:
		one = one[:cut]
	default:
		one = one[:cut] + samples.Pick(w.Maker, "0", "g", "\"", "\\", " ", "\t", "F", "\xc3", "\u00a0", "\v", "-", "\"\"") + one[cut:]
	}
	out := slices.Clone(words)
	out[at] = one
	return out
}

// someScripts tells so many scripts, and what is told of each.
func someScripts(m *samples.Maker, count int) (scripts, told []string) {
	for range count {
		l := someLines(m)
		scripts, told = append(scripts, scriptOf(l)), append(told, toldOf(l))
	}
	return scripts, told
}

// TestT9P20_1P20_2Chance holds many scripts against the chapter's second reading; each command must come often, with each error that it can have.
func TestT9P20_1P20_2Chance(t *testing.T) {
	m := samples.New(2001)
	counts := map[string]int{}
	for range 1500 {
		l := someLines(m)
		lookAtText(t, scriptOf(l), toldOf(l))
		for _, x := range l {
			if len(x.words) > 0 {
				counts[outcome(x)]++
			}
		}
	}
	for what, least := range leastOf() {
		if counts[what] < least {
			t.Errorf("too few of %s: %d", what, counts[what])
		}
	}
	if t.Failed() {
		t.Log(counts)
	}
}

// outcome tells a command's name and how it ended.
func outcome(x spoken) string {
	name := x.words[0]
	if _, ok := forms[name]; !ok {
		name = "none"
	}
	if rest, ok := strings.CutPrefix(x.told, "error "); ok {
		code, _, _ := strings.Cut(rest, " ")
		return name + " " + code
	}
	if name == "diff" {
		name, _, _ = strings.Cut(x.told, " ")
	}
	return name + " 0"
}

func leastOf() map[string]int {
	out := map[string]int{}
	for name, form := range forms {
		out[name+" 0"] = 200
		out[name+" 11"] = 15
		if name != "file" && name != "compile" && name != "unpack" {
			out[name+" 20"] = 20
		}
		if strings.Contains(form, "h") {
			out[name+" 3"] = 30
		}
	}
	delete(out, "diff 0")
	for _, class := range []string{"same", "additive", "widening", "breaking"} {
		out[class+" 0"] = 30
	}
	for _, what := range []string{"compile 11", "compile 12", "compile 13", "compile 14", "mask 12", "encode 12", "encode 7", "unpack 18", "decode 9", "interp 9", "decode 6", "through 9", "none 11"} {
		out[what] = 5
	}
	return out
}
