package check_test

import (
	"cmp"
	"slices"
	"testing"

	"cartouche/api"
	"cartouche/check"
	"cartouche/parse"
	"cartouche/samples"
)

// The chapter read a second time: all faults of a bundle, each with its rank; the one with the least rank is told.

type ranked struct {
	rank  []int
	fault api.Fault
}

// known is a declaration as it is found in the trees.
type known struct {
	name  string
	file  int // from 0 on
	index int
	tree  parse.Decl
}

type again struct {
	sources []api.Source
	trees   []parse.File
	decls   []known
	faults  []ranked
}

func (a *again) say(e api.Errno, file int, p parse.Place, rank ...int) {
	a.faults = append(a.faults, ranked{rank, api.Fault{Code: e, File: file, Line: p.Line, Col: p.Col}})
}

func (a *again) sayIf(wrong bool, e api.Errno, file int, p parse.Place, rank ...int) {
	if wrong {
		a.say(e, file, p, rank...)
	}
}

func readAgain(sources []api.Source) *again {
	a := &again{sources: sources}
	none := parse.Place{}
	a.sayIf(len(sources) > api.MaxFiles, api.ErrLimit, 0, none, 1, 1)
	size := 0
	for i, s := range sources {
		size += len(s.Text)
		for _, o := range sources[:i] {
			a.sayIf(o.Name == s.Name, api.ErrDup, i+1, none, 1, 3, i)
		}
	}
	a.sayIf(size > api.MaxText, api.ErrTooBig, 0, none, 1, 2)
	for i, s := range sources {
		tree, fault := parse.Parse(s.Text)
		a.sayIf(fault.Code != api.OK, fault.Code, i+1, parse.Place{Line: fault.Line, Col: fault.Col}, 2, i)
		a.trees = append(a.trees, tree)
	}
	a.imports()
	for i, f := range a.trees {
		for _, d := range f.Decls {
			a.declared(i, d.Name, d)
		}
	}
	for _, k := range a.decls {
		at := []int{5, k.index}
		a.sayIf(k.index >= api.MaxTypes, api.ErrLimit, k.file+1, k.tree.At, append(at, 1)...)
		a.sayIf(a.find(k.name).index < k.index, api.ErrDup, k.file+1, k.tree.At, append(at, 2)...)
		if k.tree.Enum {
			a.enum(k)
		} else {
			a.message(k)
		}
	}
	return a
}

func (a *again) declared(file int, name string, d parse.Decl) {
	a.decls = append(a.decls, known{name, file, len(a.decls), d})
	for _, x := range d.Decls {
		a.declared(file, name+"."+x.Name, x)
	}
}

func (a *again) find(name string) known {
	return a.decls[slices.IndexFunc(a.decls, func(k known) bool { return k.name == name })]
}

func (a *again) source(name string) int {
	return slices.IndexFunc(a.sources, func(s api.Source) bool { return s.Name == name })
}

// imports knows for each two files whether imports lead from one to the other, by going on till nothing is new.
func (a *again) imports() {
	ways := map[[2]int]bool{}
	for i, f := range a.trees {
		for n, x := range f.Imports {
			to := a.source(x.Name)
			a.sayIf(to < 0, api.ErrImport, i+1, x.At, 3, i, n, 1)
			for _, o := range f.Imports[:n] {
				a.sayIf(o.Name == x.Name, api.ErrDup, i+1, x.At, 3, i, n, 2)
			}
			ways[[2]int{i, to}] = to >= 0
		}
	}
	for range a.trees {
		for i := range a.trees {
			for j := range a.trees {
				for k := range a.trees {
					if ways[[2]int{i, j}] && ways[[2]int{j, k}] {
						ways[[2]int{i, k}] = true
					}
				}
			}
		}
	}
	for i, f := range a.trees {
		for n, x := range f.Imports {
			to := a.source(x.Name)
			a.sayIf(to == i || ways[[2]int{to, i}], api.ErrCycle, i+1, x.At, 4, i, n)
		}
	}
}

func (a *again) seen(file int) []string {
	var out []string
	for _, k := range a.decls {
		imported := slices.ContainsFunc(a.trees[file].Imports, func(x parse.Import) bool { return a.source(x.Name) == k.file })
		if k.file == file || imported {
			out = append(out, k.name)
		}
	}
	return out
}

// resolve tells a type's kind, 0, if it is none, and the declaration's index.
func (a *again) resolve(k known, written string) (kind, ref int) {
	if i := slices.Index(kindNames, written); i >= 0 {
		return i + 1, 0
	}
	name, ok := resolveByList(a.seen(k.file), k.name, written)
	if !ok {
		return 0, 0
	}
	if to := a.find(name); to.tree.Enum {
		return api.Enum, to.index
	}
	return api.Message, a.find(name).index
}

func (a *again) enum(k known) {
	say := func(wrong bool, e api.Errno, p parse.Place, rank ...int) {
		a.sayIf(wrong, e, k.file+1, p, append([]int{6, k.index}, rank...)...)
	}
	say(len(k.tree.Symbols) == 0, api.ErrSymbol, k.tree.At, 0)
	for i, s := range k.tree.Symbols {
		say(i == 0 && s.Number != 0, api.ErrSymbol, s.NumberAt, 0)
		say(i >= api.MaxFields, api.ErrLimit, s.At, 1, i, 1)
		say(s.Number > 2147483647, api.ErrRange, s.NumberAt, 1, i, 3)
		for _, o := range k.tree.Symbols[:i] {
			say(o.Name == s.Name, api.ErrDup, s.At, 1, i, 2)
			say(o.Number == s.Number, api.ErrNumber, s.NumberAt, 1, i, 4)
		}
	}
}

func (a *again) message(k known) {
	say := func(wrong bool, e api.Errno, p parse.Place, rank ...int) {
		a.sayIf(wrong, e, k.file+1, p, append([]int{6, k.index}, rank...)...)
	}
	inRange := func(n uint64, r parse.Range) bool { return n >= r.Low && n <= r.High }
	for i, r := range k.tree.Reserved {
		say(i >= api.MaxFields, api.ErrLimit, r.At, 1, i, 1)
		say(r.Low == 0 || r.High == 0 || r.Low > 536870911 || r.High > 536870911 || r.High < r.Low, api.ErrRange, r.At, 1, i, 2)
		for _, o := range k.tree.Reserved[:i] {
			say(inRange(r.Low, o) || inRange(r.High, o) || inRange(o.Low, r), api.ErrNumber, r.At, 1, i, 3)
		}
	}
	for i, o := range k.tree.Oneofs {
		for _, x := range k.tree.Oneofs[:i] {
			say(o.Name == x.Name, api.ErrDup, o.At, 2, i)
		}
		for j, f := range k.tree.Fields {
			say(o.Name == f.Name, api.ErrDup, f.At, 3, j, 2)
		}
	}
	for i, f := range k.tree.Fields {
		say(i >= api.MaxFields, api.ErrLimit, f.At, 3, i, 1)
		say(f.Number == 0 || f.Number > 536870911, api.ErrRange, f.NumberAt, 3, i, 3)
		for _, o := range k.tree.Fields[:i] {
			say(o.Name == f.Name, api.ErrDup, f.At, 3, i, 2)
			say(o.Number == f.Number, api.ErrNumber, f.NumberAt, 3, i, 4)
		}
		for _, r := range k.tree.Reserved {
			say(inRange(f.Number, r), api.ErrNumber, f.NumberAt, 3, i, 4)
		}
		kind, _ := a.resolve(k, f.Type)
		say(kind == 0, api.ErrName, f.TypeAt, 3, i, 5)
		say(f.Label == api.Optional && kind == api.Message, api.ErrOption, f.MarkAt, 3, i, 6)
		key := 1 + slices.Index(kindNames, f.Key)
		say(f.Label == api.Map && (key == 0 || !isKey(key)), api.ErrOption, f.MarkAt, 3, i, 6)
		say(f.Packed > 0 && (f.Label != api.Repeated || !isNumeric(kind)), api.ErrOption, f.MarkAt, 3, i, 6)
	}
}

func (a *again) fault() api.Fault {
	if len(a.faults) == 0 {
		return api.Fault{}
	}
	return slices.MinFunc(a.faults, func(x, y ranked) int { return slices.Compare(x.rank, y.rank) }).fault
}

// table tells the one of a bundle without a fault.
func (a *again) table() api.Table {
	t := api.Table{}
	for _, k := range a.decls {
		x := api.Type{Name: k.name, Enum: k.tree.Enum}
		for _, s := range k.tree.Symbols {
			x.Symbols = append(x.Symbols, api.Symbol{Name: s.Name, Number: int(s.Number)})
		}
		for _, o := range k.tree.Oneofs {
			x.Oneofs = append(x.Oneofs, o.Name)
		}
		for _, r := range k.tree.Reserved {
			x.Reserved = append(x.Reserved, api.Range{Low: int(r.Low), High: int(r.High)})
		}
		slices.SortFunc(x.Reserved, func(a, b api.Range) int { return cmp.Compare(a.High, b.High) })
		for _, f := range k.tree.Fields {
			x.Fields = append(x.Fields, a.field(k, f))
		}
		slices.SortFunc(x.Fields, func(a, b api.FieldType) int { return a.Number - b.Number })
		t.Types = append(t.Types, x)
	}
	return t
}

func (a *again) field(k known, f parse.Field) api.FieldType {
	kind, ref := a.resolve(k, f.Type)
	out := api.FieldType{Name: f.Name, Number: int(f.Number), Kind: kind, Ref: ref}
	switch f.Label {
	case api.Plain:
		if kind == api.Message {
			out.Label = api.Optional
		}
	case api.Repeated:
		out.Label = api.Repeated
		if isNumeric(kind) && f.Packed < 2 {
			out.Label = api.Packed
		}
	case api.Member:
		out.Label, out.Oneof = api.Member, f.Oneof
	case api.Map:
		out.Label, out.Key = api.Map, 1+slices.Index(kindNames, f.Key)
	default:
		out.Label = f.Label
	}
	return out
}

// lookAgain holds Compile against the second reading.
func lookAgain(t *testing.T, sources []api.Source) api.Errno {
	t.Helper()
	a := readAgain(sources)
	table, fault := check.Compile(sources)
	want := api.Table{}
	if a.fault() == (api.Fault{}) {
		want = a.table()
	}
	if fault != a.fault() || !samples.SameTable(table, want) {
		t.Errorf("Compile(%q):\n%+v, fault %v; want\n%+v, fault %v", sources, table, fault, want, a.fault())
	}
	return fault.Code
}
