package check_test

import (
	"slices"
	"strings"
	"testing"

	"cartouche/api"
	"cartouche/check"
	"cartouche/lex"
	"cartouche/samples"
)

func isName(s string) bool {
	l, fault := lex.Split(s)
	return fault.Code == api.OK && len(l) == 2 && l[0].Kind == lex.Name && l[0].S == s
}

func allNames(l []string) bool {
	return !slices.ContainsFunc(l, func(s string) bool { return !isName(s) })
}

func different[T comparable](l []T) bool {
	for i, x := range l {
		if slices.Contains(l[:i], x) {
			return false
		}
	}
	return true
}

// isGood goes by chapter 7's words of a good table.
func isGood(t api.Table) bool {
	for i, x := range t.Types {
		names := strings.Split(x.Name, ".")
		room := api.MaxNest
		if x.Enum {
			room++
		}
		if len(names) > room || !allNames(names) || slices.ContainsFunc(t.Types[:i], func(o api.Type) bool { return o.Name == x.Name }) {
			return false
		}
		around := strings.Join(names[:len(names)-1], ".")
		if around != "" && !slices.ContainsFunc(t.Types[:i], func(o api.Type) bool { return o.Name == around && !o.Enum }) {
			return false
		}
		if x.Enum && !isGoodEnum(x) || !x.Enum && !isGoodMessage(t, x) {
			return false
		}
	}
	return len(t.Types) <= api.MaxTypes
}

func isGoodEnum(x api.Type) bool {
	var names []string
	var numbers []int
	for _, s := range x.Symbols {
		if !isName(s.Name) || s.Number < 0 || s.Number > 1<<31-1 {
			return false
		}
		names, numbers = append(names, s.Name), append(numbers, s.Number)
	}
	return len(names) >= 1 && len(names) <= api.MaxFields && numbers[0] == 0 && different(names) && different(numbers) && len(x.Fields)+len(x.Oneofs)+len(x.Reserved) == 0
}

func isGoodMessage(t api.Table, x api.Type) bool {
	names := slices.Clone(x.Oneofs)
	last := 0
	for _, f := range x.Fields {
		if f.Number <= last || f.Number > api.MaxNumber || !isGoodField(t, x, f) {
			return false
		}
		last = f.Number
		names = append(names, f.Name)
	}
	last = 0
	for _, r := range x.Reserved {
		taken := slices.ContainsFunc(x.Fields, func(f api.FieldType) bool { return f.Number >= r.Low && f.Number <= r.High })
		if r.Low <= last || r.High < r.Low || r.High > api.MaxNumber || taken {
			return false
		}
		last = r.High
	}
	for i := range x.Oneofs {
		if !slices.ContainsFunc(x.Fields, func(f api.FieldType) bool { return f.Label == api.Member && f.Oneof == i }) {
			return false
		}
	}
	return different(names) && allNames(names) && len(x.Fields) <= api.MaxFields && len(x.Reserved) <= api.MaxFields && len(x.Symbols) == 0
}

func isGoodField(t api.Table, x api.Type, f api.FieldType) bool {
	switch {
	case f.Kind < api.Bool || f.Kind > api.Message || f.Label < api.Plain || f.Label > api.Map:
		return false
	case f.Kind == api.Enum || f.Kind == api.Message:
		if f.Ref < 0 || f.Ref >= len(t.Types) || t.Types[f.Ref].Enum != (f.Kind == api.Enum) {
			return false
		}
	case f.Ref != 0:
		return false
	}
	if f.Label == api.Plain && f.Kind == api.Message || f.Label == api.Packed && !isNumeric(f.Kind) {
		return false
	}
	if f.Label != api.Member && f.Oneof != 0 || f.Oneof < 0 || f.Label == api.Member && f.Oneof >= len(x.Oneofs) {
		return false
	}
	return f.Label == api.Map && f.Key >= 1 && isKey(f.Key) || f.Label != api.Map && f.Key == 0
}

func TestP6_4Good(t *testing.T) {
	m := newMaker(65)
	found := 0
	for range 4000 {
		l := m.next()
		table, fault := check.Compile(l)
		if fault.Code != api.OK {
			continue
		}
		found++
		if !isGood(table) {
			t.Errorf("Compile(%q): %+v is not good", l, table)
		}
	}
	if found < 1000 {
		t.Errorf("%d bundles are taken only", found)
	}
	deepest := strings.Repeat("message A { ", api.MaxNest) + "enum E { Z = 0; }" + strings.Repeat(" }", api.MaxNest)
	widest := "message M {" + fields(api.MaxFields) + "reserved " + ranges(api.MaxFields-1) + " 7; } enum E {" + symbols(api.MaxFields) + "}"
	for _, text := range []string{deepest, widest, lines(api.MaxTypes, "message M# {}")} {
		if !isGood(tableOf(t, files(text))) {
			t.Errorf("%s: not good", text)
		}
	}
}

// named has a field's type by its name, so that tables with types in another order can be held against each other.
type named struct {
	of    string
	field api.FieldType
	to    string
}

func allFields(t api.Table) map[named]int {
	out := map[named]int{}
	for _, x := range t.Types {
		for i, f := range x.Fields {
			to := ""
			if f.Kind >= api.Enum {
				to = t.Types[f.Ref].Name
			}
			f.Ref = 0
			out[named{x.Name, f, to}] = i
		}
	}
	return out
}

// sameButOrder tells whether two tables differ in the order of types alone.
func sameButOrder(a, b api.Table) bool {
	x, y := allFields(a), allFields(b)
	for f, i := range x {
		if j, ok := y[f]; !ok || i != j {
			return false
		}
	}
	for _, p := range a.Types {
		i := slices.IndexFunc(b.Types, func(q api.Type) bool { return q.Name == p.Name })
		if i < 0 {
			return false
		}
		q := b.Types[i]
		p.Fields, q.Fields = nil, nil
		if !samples.SameType(p, q) {
			return false
		}
	}
	return len(x) == len(y) && len(a.Types) == len(b.Types)
}

// namesOf tells the full names of a file's declarations in their order.
func namesOf(t *testing.T, text string) []string {
	t.Helper()
	var out []string
	a := readAgain([]api.Source{{Text: text}})
	for _, k := range a.decls {
		out = append(out, k.name)
	}
	return out
}

// TestP6_4OrderOfFiles has each bundle in other orders: it is taken or refused alike, and the types stand in the files' order.
func TestP6_4OrderOfFiles(t *testing.T) {
	m := newMaker(66)
	counts := map[bool]int{}
	for range 3000 {
		l := m.next()
		table, fault := check.Compile(l)
		other := slices.Clone(l)
		m.chance.Shuffle(len(other), func(i, j int) { other[i], other[j] = other[j], other[i] })
		turned, otherFault := check.Compile(other)
		taken := fault.Code == api.OK
		if counts[taken]++; taken != (otherFault.Code == api.OK) || !sameButOrder(table, turned) {
			t.Errorf("Compile(%q):\n%+v, fault %v; in the other order\n%+v, fault %v", l, table, fault, turned, otherFault)
		}
		var want, got []string
		for _, s := range other {
			want = append(want, namesOf(t, s.Text)...)
		}
		for _, x := range turned.Types {
			got = append(got, x.Name)
		}
		if taken && !slices.Equal(got, want) {
			t.Errorf("Compile(%q): types %q, want %q", other, got, want)
		}
	}
	if counts[true] < 1000 || counts[false] < 500 {
		t.Errorf("too few of a kind: %v", counts)
	}
}

// spread writes a text's words anew with other blanks and comments between them; the words' places stand beside it.
func (m *maker) spread(words []lex.Word) (string, []lex.Word) {
	var b strings.Builder
	for _, w := range words[:len(words)-1] {
		for range m.chance.Intn(3) {
			b.WriteString(pick(m, " ", "\n", "\t", "\r\n", "// message }\n", "/* ; */", "/*\n\"*/", "  "))
		}
		b.WriteString(" " + w.S)
	}
	b.WriteString(pick(m, "", "\n", " // end", "/* */"))
	out, _ := lex.Split(b.String())
	return b.String(), out
}

// wordAt tells which word of its file a fault stands at; -1, if it has no place.
func wordAt(words [][]lex.Word, f api.Fault) int {
	if f.Line == 0 {
		return -1
	}
	return slices.IndexFunc(words[f.File-1], func(w lex.Word) bool { return w.Line == f.Line && w.Col == f.Col })
}

func TestP6_4Blanks(t *testing.T) {
	m := newMaker(67)
	counts := map[bool]int{}
bundles:
	for range 3000 {
		l := m.next()
		other := slices.Clone(l)
		var words, spread [][]lex.Word
		for i, s := range l {
			w, fault := lex.Split(s.Text)
			if fault.Code != api.OK {
				continue bundles
			}
			text, moved := m.spread(w)
			other[i].Text = text
			words, spread = append(words, w), append(spread, moved)
		}
		table, fault := check.Compile(l)
		again, otherFault := check.Compile(other)
		if !samples.SameTable(table, again) || fault.Code != otherFault.Code || fault.File != otherFault.File || wordAt(words, fault) != wordAt(spread, otherFault) {
			t.Errorf("Compile(%q):\n%+v, fault %v; with other blanks %q:\n%+v, fault %v", l, table, fault, other, again, otherFault)
		}
		counts[fault.Code == api.OK]++
	}
	if counts[true] < 1000 || counts[false] < 500 {
		t.Errorf("too few of a kind: %v", counts)
	}
}
