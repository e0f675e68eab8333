package parse_test

import (
	"fmt"
	"math/rand"
	"slices"
	"strconv"
	"strings"
	"testing"

	"cartouche/api"
	"cartouche/lex"
	"cartouche/parse"
	"cartouche/quote"
)

// writer lays words one behind the other, blanks and comments by chance between them, and knows their places: so the tree is known without reading.
type writer struct {
	text   strings.Builder
	chance *rand.Rand
}

func newWriter(chance *rand.Rand) *writer { return &writer{chance: chance} }

func inName(c byte) bool {
	return c == '_' || c >= '0' && c <= '9' || c >= 'a' && c <= 'z' || c >= 'A' && c <= 'Z'
}

func (w *writer) word(s string) parse.Place {
	gaps := []string{" ", "\n", "\t \r\n", " // } x\n", "/* ; */", "/*\n*/  "}
	text := w.text.String()
	touch := text != "" && inName(text[len(text)-1]) && inName(s[0])
	if touch || w.chance.Intn(2) == 0 {
		w.text.WriteString(gaps[w.chance.Intn(len(gaps))])
	}
	text = w.text.String()
	w.text.WriteString(s)
	return at(1+strings.Count(text, "\n"), len(text)-strings.LastIndex(text, "\n"))
}

func (w *writer) words(l ...string) {
	for _, s := range l {
		w.word(s)
	}
}

func (w *writer) anyName() string {
	if w.chance.Intn(2) == 0 {
		return keywords[w.chance.Intn(len(keywords))]
	}
	return []string{"a", "B_1", "int32", "_", "x", "Messages"}[w.chance.Intn(6)]
}

func (w *writer) name() (string, parse.Place) {
	s := w.anyName()
	return s, w.word(s)
}

func (w *writer) number() (uint64, parse.Place) {
	n := w.chance.Uint64() >> w.chance.Intn(64)
	if w.chance.Intn(3) == 0 {
		return n, w.word("0x" + strconv.FormatUint(n, 16))
	}
	return n, w.word(strconv.FormatUint(n, 10))
}

func (w *writer) typeOf(f *parse.Field) {
	var l []string
	for range 1 + w.chance.Intn(3)*w.chance.Intn(2) {
		l = append(l, w.anyName())
	}
	if f.Label == api.Plain && slices.Contains(beginners, l[0]) {
		l[0] = "Own"
	}
	f.Type, f.TypeAt = strings.Join(l, "."), w.word(l[0])
	for _, s := range l[1:] {
		w.words(".", s)
	}
}

func (w *writer) nameOf(f *parse.Field) {
	f.Name, f.At = w.name()
	w.word("=")
	f.Number, f.NumberAt = w.number()
}

func (w *writer) field(label int) parse.Field {
	f := parse.Field{Label: label}
	switch label {
	case api.Optional:
		f.MarkAt = w.word("optional")
	case api.Repeated:
		f.MarkAt = w.word("repeated")
	case api.Map:
		w.words("map", "<")
		f.Key, f.MarkAt = w.name()
		w.word(",")
	}
	w.typeOf(&f)
	if label == api.Map {
		w.word(">")
	}
	w.nameOf(&f)
	if f.Packed = w.chance.Intn(3); label == api.Map || label == api.Member {
		f.Packed = 0
	}
	if f.Packed > 0 {
		w.word("[")
		f.MarkAt = w.word("packed")
		w.words("=", []string{"true", "false"}[f.Packed-1], "]")
	}
	w.word(";")
	return f
}

func (w *writer) oneof(d *parse.Decl) {
	w.word("oneof")
	o := parse.Oneof{}
	o.Name, o.At = w.name()
	w.word("{")
	for range 1 + w.chance.Intn(3) {
		f := w.field(api.Member)
		f.Oneof = len(d.Oneofs)
		d.Fields = append(d.Fields, f)
	}
	w.word("}")
	d.Oneofs = append(d.Oneofs, o)
}

func (w *writer) reserved(d *parse.Decl) {
	between := "reserved"
	for range 1 + w.chance.Intn(3) {
		w.word(between)
		between = ","
		r := parse.Range{}
		r.Low, r.At = w.number()
		r.High = r.Low
		if w.chance.Intn(2) == 0 {
			w.word("to")
			r.High, _ = w.number()
		}
		d.Reserved = append(d.Reserved, r)
	}
	w.word(";")
}

func (w *writer) enum() parse.Decl {
	w.word("enum")
	d := parse.Decl{Enum: true}
	d.Name, d.At = w.name()
	w.word("{")
	for range w.chance.Intn(4) {
		s := parse.Symbol{}
		s.Name, s.At = w.name()
		w.word("=")
		s.Number, s.NumberAt = w.number()
		w.word(";")
		d.Symbols = append(d.Symbols, s)
	}
	w.word("}")
	return d
}

// message writes one that may have so many others within one another in it.
func (w *writer) message(room int) parse.Decl {
	w.word("message")
	d := parse.Decl{}
	d.Name, d.At = w.name()
	w.word("{")
	for range w.chance.Intn(7) {
		switch kind := w.chance.Intn(8); {
		case kind == 0 && room > 0:
			d.Decls = append(d.Decls, w.message(room-1))
		case kind == 1:
			d.Decls = append(d.Decls, w.enum())
		case kind == 2:
			w.oneof(&d)
		case kind == 3:
			w.reserved(&d)
		default:
			d.Fields = append(d.Fields, w.field([]int{api.Plain, api.Optional, api.Repeated, api.Map}[w.chance.Intn(4)]))
		}
	}
	w.word("}")
	return d
}

func (w *writer) file(size int) parse.File {
	f := parse.File{}
	for range w.chance.Intn(size + 1) {
		switch w.chance.Intn(4) {
		case 0:
			name := make([]byte, w.chance.Intn(4))
			for i := range name {
				name[i] = byte(w.chance.Intn(256))
			}
			w.word("import")
			f.Imports = append(f.Imports, parse.Import{Name: string(name), At: w.word(quote.Quote(name))})
			w.word(";")
		case 1:
			f.Decls = append(f.Decls, w.enum())
		default:
			f.Decls = append(f.Decls, w.message(api.MaxNest-1))
		}
	}
	return f
}

// TestP5_2Chance holds Parse against trees that were written word by word.
func TestP5_2Chance(t *testing.T) {
	chance := rand.New(rand.NewSource(53))
	for range 3000 {
		w := newWriter(chance)
		want := w.file(6)
		if text := w.text.String(); len(text) <= api.MaxText {
			lookAtTree(t, text, want)
		}
	}
}

// inGroups tells whether a message's ranges, then its fields, then its declarations stand each on a line behind the one ahead of it.
func inGroups(d parse.Decl) bool {
	last := parse.Place{}
	for _, r := range d.Reserved {
		if r.At.Line <= last.Line {
			return false
		}
		last = r.At
	}
	for _, f := range d.Fields {
		if f.At.Line <= last.Line {
			return false
		}
		last = f.At
	}
	for _, x := range d.Decls {
		if x.At.Line <= last.Line || !inGroups(x) {
			return false
		}
		last = x.At
	}
	return true
}

// layout writes a text's words anew by a rule of blanks alone: a line ends behind `{`, `}` and `;`.
func layout(words []lex.Word) string {
	out, depth, begins, before := "", 0, true, ""
	for _, w := range words {
		if w.Kind == lex.End {
			break
		}
		if w.S == "}" {
			depth--
		}
		switch {
		case begins:
			out += strings.Repeat("  ", depth)
		case !slices.Contains([]string{";", ",", ".", "<", ">", "]"}, w.S) && !slices.Contains([]string{".", "<", "["}, before):
			out += " "
		}
		out += w.S
		before, begins = w.S, w.S == "{" || w.S == "}" || w.S == ";"
		if w.S == "{" {
			depth++
		}
		if begins {
			out += "\n"
		}
	}
	return out
}

func lookAtBack(t *testing.T, text string) {
	t.Helper()
	f := treeOf(t, text)
	printed := parse.Print(f)
	g, fault := parse.Parse(printed)
	if fault != (api.Fault{}) {
		t.Fatalf("%q printed as %q: fault %v", text, printed, fault)
	}
	if !sameFile(parse.Bare(f), parse.Bare(g)) {
		t.Errorf("%q printed as %q: %+v, want %+v", text, printed, g, f)
	}
	for _, d := range g.Decls {
		if !inGroups(d) {
			t.Errorf("%q printed as %q: not by groups", text, printed)
		}
	}
	words, _ := lex.Split(printed)
	if other := layout(words); other != printed {
		t.Errorf("printed %q, want %q", printed, other)
	}
	if again := parse.Print(g); again != printed {
		t.Errorf("printed %q, then %q", printed, again)
	}
}

func TestP5_4Back(t *testing.T) {
	for _, text := range wholes {
		lookAtBack(t, text)
	}
	for _, k := range keywords {
		lookAtBack(t, strings.ReplaceAll("message K { oneof K { K K = 1; K.K K = 2; } optional K K = 3; repeated K.K K = 4 [packed = true]; map<K, K> K = 5; enum K { K = 6; } } enum K { K = 7; }", "K", k))
	}
	for c := range 256 {
		lookAtBack(t, "import "+quote.Quote([]byte{byte(c), 'a', byte(c)})+";")
	}
	lookAtBack(t, nested(api.MaxNest, "a x = 1; enum E { A = 0; } oneof o { message y = 2; }"))
	lookAtBack(t, "message M { a x = 18446744073709551615; reserved 0, 0xffffffffffffffff to 1; }")
}

func TestP5_4Chance(t *testing.T) {
	chance := rand.New(rand.NewSource(54))
	for range 2000 {
		w := newWriter(chance)
		w.file(4)
		if text := w.text.String(); len(text) <= api.MaxText/8 {
			lookAtBack(t, text)
		}
	}
}

// TestP5_4ManyOneofs has as many oneofs as a text holds in which the printed one fits too.
func TestP5_4ManyOneofs(t *testing.T) {
	var b strings.Builder
	b.WriteString("message M {")
	for i := range 1500 {
		fmt.Fprintf(&b, "oneof o%d{a x=1;}", i)
	}
	b.WriteString("}")
	lookAtBack(t, b.String())
}
