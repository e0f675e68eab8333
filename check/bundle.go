package check

import (
	"slices"

	"cartouche/api"
	"cartouche/parse"
)

// decl is a declaration with its full name, and the spot of its name.
type decl struct {
	name string
	spot spot
	tree parse.Decl
}

// at tells a spot in the declaration's file.
func (d decl) at(p parse.Place) spot { return spot{file: d.spot.file, at: p} }

// bundle is all declarations in order. A declaration's index here is its type's index in the table.
type bundle struct {
	decls []decl
	index map[string]int
	seen  [][]string // of each file the full names that are seen in it
}

func gather(l files) bundle {
	b := bundle{}
	for i, f := range l {
		b.add(i+1, "", f.tree.Decls)
	}
	b.index = firsts(b.decls, func(d decl) string { return d.name })
	for i, f := range l {
		b.seen = append(b.seen, b.seenIn(i, f.imports))
	}
	return b
}

// add takes declarations up, each ahead of those within it. One past the limit is refused, so that none behind it is asked for.
func (b *bundle) add(number int, around string, l []parse.Decl) {
	for _, d := range l {
		if len(b.decls) > api.MaxTypes {
			return
		}
		b.decls = append(b.decls, decl{name: around + d.Name, spot: spot{file: number, at: d.At}, tree: d})
		b.add(number, around+d.Name+between, d.Decls)
	}
}

func (b *bundle) seenIn(index int, imports []int) []string {
	var out []string
	for _, d := range b.decls {
		if from := d.spot.file - 1; from == index || slices.Contains(imports, from) {
			out = append(out, d.name)
		}
	}
	return out
}

func (b *bundle) lookAtNames() api.Fault {
	for i, d := range b.decls {
		if i >= api.MaxTypes {
			return d.spot.fault(api.ErrLimit)
		}
		if b.decls[b.index[d.name]].spot != d.spot {
			return d.spot.fault(api.ErrDup)
		}
	}
	return api.Fault{}
}

func (b *bundle) table() (api.Table, api.Fault) {
	t := api.Table{}
	for _, d := range b.decls {
		x, fault := b.typeOf(d)
		if fault.Code != api.OK {
			return api.Table{}, fault
		}
		t.Types = append(t.Types, x)
	}
	return t, api.Fault{}
}

func (b *bundle) typeOf(d decl) (api.Type, api.Fault) {
	if d.tree.Enum {
		return d.enum()
	}
	return b.message(d)
}
