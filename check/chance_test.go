package check_test

import (
	"fmt"
	"math/rand"
	"slices"
	"strings"
	"testing"

	"cartouche/api"
	"cartouche/parse"
)

// maker writes bundles by chance. First the declarations' names are laid, then the texts are written, so that types can be named that stand elsewhere.
type maker struct {
	chance *rand.Rand
	wrongs int // how often something is wrong, of 1000
	all    *again
}

func (m *maker) wrong() bool { return m.chance.Intn(1000) < m.wrongs }

func pick[T any](m *maker, l ...T) T { return l[m.chance.Intn(len(l))] }

// name tells a fresh one of a list, or one that is taken.
func (m *maker) name(taken *[]string) string {
	for {
		s := pick(m, "A", "B", "C", "T", "int32", "map")
		if m.chance.Intn(3) == 0 {
			s = fmt.Sprint(s, m.chance.Intn(9))
		}
		if !slices.Contains(*taken, s) || m.wrong() {
			*taken = append(*taken, s)
			return s
		}
	}
}

// skeleton lays declarations without members; top-level names are all of one list, over files.
func (m *maker) skeleton(taken *[]string, room int) []parse.Decl {
	var out []parse.Decl
	for range m.chance.Intn(3) {
		d := parse.Decl{Name: m.name(taken), Enum: m.chance.Intn(3) == 0}
		if !d.Enum && room > 1 {
			d.Decls = m.skeleton(&[]string{}, room-1)
		}
		out = append(out, d)
	}
	return out
}

// typeName tells a type as it may be written in a message so that it stands for something.
func (m *maker) typeName(k known) string {
	seen := m.all.seen(k.file)
	switch {
	case m.wrong():
		return pick(m, "Foo", "A.Foo", "A", "B.C", "Int32", "double.x")
	case len(seen) == 0 || m.chance.Intn(3) == 0:
		return pick(m, kindNames...)
	}
	full := pick(m, seen...)
	l := strings.Split(full, ".")
	short := strings.Join(l[m.chance.Intn(len(l)):], ".")
	if _, ok := resolveByList(seen, k.name, short); ok {
		return short
	}
	return full
}

// pool gives out what a message's members are made of.
type pool struct {
	names, oneofs []string
	numbers       []int
	used          []int
}

func (m *maker) fieldName(p *pool) string {
	if m.wrong() && len(p.names)+len(p.oneofs) > 0 {
		return pick(m, append(p.names, p.oneofs...)...)
	}
	p.names = append(p.names, fmt.Sprint("f", len(p.names)))
	return p.names[len(p.names)-1]
}

func (m *maker) number(p *pool) int {
	if m.wrong() {
		return pick(m, append(p.used, 0, 536870912, 1<<40, 1003)...)
	}
	n := p.numbers[0]
	p.numbers = p.numbers[1:]
	p.used = append(p.used, n)
	return n
}

func (m *maker) field(k known, p *pool) string {
	written := m.typeName(k)
	kind, _ := m.all.resolve(k, written)
	rest := fmt.Sprintf("%s = %d", m.fieldName(p), m.number(p))
	option := ""
	if m.wrong() || m.chance.Intn(3) == 0 {
		option = pick(m, " [packed = true]", " [packed = false]")
	}
	switch m.chance.Intn(4) {
	case 0:
		key := pick(m, "bool", "int32", "uint64", "string", "sfixed64")
		if m.wrong() {
			key = pick(m, "double", "bytes", "float", "A", "Foo")
		}
		return "map<" + key + ", " + written + "> " + rest + ";"
	case 1:
		if !isNumeric(kind) && !m.wrong() {
			option = ""
		}
		return "repeated " + written + " " + rest + option + ";"
	case 2:
		if kind != api.Message || m.wrong() {
			if !m.wrong() {
				option = ""
			}
			return "optional " + written + " " + rest + option + ";"
		}
	}
	if slices.Contains([]string{"map"}, strings.Split(written, ".")[0]) {
		return ""
	}
	if !m.wrong() {
		option = ""
	}
	return written + " " + rest + option + ";"
}

func (m *maker) oneof(k known, p *pool) string {
	name := fmt.Sprint("o", len(p.oneofs))
	if m.wrong() {
		name = pick(m, append(p.oneofs, append(p.names, "o0")...)...)
	}
	p.oneofs = append(p.oneofs, name)
	text := "oneof " + name + " {"
	for range 1 + m.chance.Intn(3) {
		text += fmt.Sprintf(" %s %s = %d;", m.typeName(k), m.fieldName(p), m.number(p))
	}
	return text + " }"
}

func (m *maker) reserved(p *pool) string {
	var l []string
	for range 1 + m.chance.Intn(3) {
		low := m.number(p)
		switch {
		case m.wrong():
			l = append(l, fmt.Sprintf("%d to %d", low, m.number(p)))
		case low > 900 && m.chance.Intn(2) == 0:
			l = append(l, fmt.Sprintf("%d to %d", low, low+m.chance.Intn(10)))
		default:
			l = append(l, fmt.Sprint(low))
		}
	}
	return "reserved " + strings.Join(l, ", ") + ";"
}

func (m *maker) message(k known) string {
	p := &pool{}
	for _, n := range m.chance.Perm(40) {
		p.numbers = append(p.numbers, 1+n*50)
	}
	p.numbers = slices.Insert(p.numbers, m.chance.Intn(5), 536870911)
	var members []string
	for range m.chance.Intn(5) {
		switch m.chance.Intn(5) {
		case 0:
			members = append(members, m.oneof(k, p))
		case 1:
			members = append(members, m.reserved(p))
		default:
			members = append(members, m.field(k, p))
		}
	}
	next := k.index + 1
	for _, d := range k.tree.Decls {
		members = append(members, m.decl(m.all.decls[next]))
		next += count(d)
	}
	if m.chance.Intn(2) == 0 { // declarations among one another stay in their order, since indices hang on it
		slices.SortStableFunc(members, func(a, b string) int { return m.side(a) - m.side(b) })
	}
	return "message " + k.tree.Name + " {\n" + strings.Join(members, pick(m, "\n", " ")) + "\n}"
}

// side puts declarations ahead of other members.
func (m *maker) side(member string) int {
	if strings.HasPrefix(member, "message ") || strings.HasPrefix(member, "enum ") {
		return 0
	}
	return 1
}

func count(d parse.Decl) int {
	n := 1
	for _, x := range d.Decls {
		n += count(x)
	}
	return n
}

func (m *maker) enum(k known) string {
	text := "enum " + k.tree.Name + " {"
	for i := range 1 + m.chance.Intn(4) {
		name, number := fmt.Sprint("S", i), i*(1+m.chance.Intn(9)*10)
		if m.wrong() {
			name = "S0"
		}
		if m.wrong() {
			number = pick(m, 0, 1, 1<<31, 1<<31-1, 1<<40)
		}
		if m.wrong() {
			break
		}
		text += fmt.Sprintf(" %s = %d;", name, number)
	}
	return text + " }"
}

func (m *maker) decl(k known) string {
	if k.tree.Enum {
		return m.enum(k)
	}
	return m.message(k)
}

// bundle writes sources named a, b, c and so on. Imports go to later files, so that they make no ring, or anywhere.
func (m *maker) bundle() []api.Source {
	sources := files(make([]string, 1+m.chance.Intn(5))...)
	m.all = &again{sources: sources}
	var taken []string
	for i := range sources {
		f := parse.File{Decls: m.skeleton(&taken, 1+m.chance.Intn(3))}
		for to := i + 1; to < len(sources); to++ {
			if m.chance.Intn(2) == 0 {
				f.Imports = append(f.Imports, parse.Import{Name: sources[to].Name})
			}
		}
		if m.wrong() {
			f.Imports = append(f.Imports, parse.Import{Name: pick(m, "a", "b", "c", "x", "")})
		}
		m.all.trees = append(m.all.trees, f)
		for _, d := range f.Decls {
			m.all.declared(i, d.Name, d)
		}
	}
	for i, f := range m.all.trees {
		sources[i].Text = m.file(i, f)
		if m.wrong() {
			sources[i].Text += pick(m, "%", "}", "message", "")
		}
	}
	if m.wrong() {
		sources[m.chance.Intn(len(sources))].Name = "a"
	}
	order := m.chance.Perm(len(sources))
	out := make([]api.Source, len(sources))
	for i, n := range order {
		out[n] = sources[i]
	}
	return out
}

func (m *maker) file(index int, f parse.File) string {
	var parts []string
	for _, x := range f.Imports {
		parts = append(parts, `import "`+x.Name+`";`)
	}
	for _, k := range m.all.decls {
		if k.file == index && !strings.Contains(k.name, ".") {
			parts = append(parts, m.decl(k))
		}
	}
	return strings.Join(parts, "\n")
}

func newMaker(seed int64) *maker { return &maker{chance: rand.New(rand.NewSource(seed))} }

// next tells a bundle that is right, or has a few faults, or many.
func (m *maker) next() []api.Source {
	m.wrongs = pick(m, 0, 5, 20, 100)
	return m.bundle()
}

// TestP6_1P6_2Chance holds Compile against the chapter's second reading, at bundles that are right and at wrong ones.
func TestP6_1P6_2Chance(t *testing.T) {
	m := newMaker(62)
	counts := map[api.Errno]int{}
	for range 10000 {
		counts[lookAgain(t, m.next())]++
	}
	for _, e := range []api.Errno{api.OK, api.ErrSyntax, api.ErrDup, api.ErrImport, api.ErrCycle, api.ErrRange, api.ErrNumber, api.ErrName, api.ErrOption, api.ErrSymbol} {
		if counts[e] < 50 {
			t.Errorf("%v: %d bundles only", e, counts[e])
		}
	}
	if counts[api.OK] < 3000 {
		t.Errorf("%d bundles are taken only", counts[api.OK])
	}
}

// TestP6_1ChanceFields has one message of few names, numbers and types, so that faults meet each other often.
func TestP6_1ChanceFields(t *testing.T) {
	m := newMaker(63)
	counts := map[api.Errno]int{}
	for range 20000 {
		text := "enum E { A = 0; } message M { reserved 3, 5 to 6"
		if m.chance.Intn(20) == 0 {
			text += pick(m, ", 0", ", 6 to 7", ", 9 to 8", ", 4")
		}
		text += "; oneof o { int32 p = 9; } "
		for i := range m.chance.Intn(4) {
			name, number := pick(m, "x", "y", "z", "w", "o", "p"), pick(m, 1, 2, 4, 7, 8, 10, 11, 5, 0)
			if m.chance.Intn(2) == 0 {
				name, number = fmt.Sprint("f", i), 20+i
			}
			text += fmt.Sprintf("%s %s = %d%s; ", pick(m, "int32", "M", "E", "repeated E", "repeated M", "optional M", "optional E", "map<string, E>", "F", "repeated F"), name, number, pick(m, "", "", "", " [packed = true]", " [packed = false]"))
		}
		counts[lookAgain(t, files(text+"}"))]++
	}
	for _, e := range []api.Errno{api.OK, api.ErrDup, api.ErrRange, api.ErrNumber, api.ErrName, api.ErrOption} {
		if counts[e] < 300 {
			t.Errorf("%v: %d messages only", e, counts[e])
		}
	}
}

// TestP6_1ChanceImports has many files that import one another as it comes.
func TestP6_1ChanceImports(t *testing.T) {
	m := newMaker(64)
	counts := map[api.Errno]int{}
	for range 5000 {
		l := files(make([]string, 1+m.chance.Intn(8))...)
		for range m.chance.Intn(10) {
			i := m.chance.Intn(len(l))
			to := l[m.chance.Intn(len(l))].Name
			if m.chance.Intn(60) == 0 {
				to = "x"
			}
			if said := `import "` + to + `"; `; !strings.Contains(l[i].Text, said) || m.chance.Intn(10) == 0 {
				l[i].Text += said
			}
		}
		counts[lookAgain(t, l)]++
	}
	if counts[api.OK] < 500 || counts[api.ErrCycle] < 500 || counts[api.ErrImport] < 100 || counts[api.ErrDup] < 100 {
		t.Errorf("too few of a kind: %v", counts)
	}
}
