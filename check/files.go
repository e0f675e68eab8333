package check

import (
	"slices"

	"cartouche/api"
	"cartouche/parse"
)

// file is a source that has been read, and the indices of those that it imports, in their order.
type file struct {
	tree    parse.File
	imports []int
}

// files are a bundle's, in its order.
type files []file

// spot is where something stands in a bundle; files are numbered from 1 on, as faults tell them.
type spot struct {
	file int
	at   parse.Place
}

func (s spot) fault(e api.Errno) api.Fault {
	return api.Fault{Code: e, File: s.file, Line: s.at.Line, Col: s.at.Col}
}

// firsts tells for each key the index of the first item that has it.
func firsts[T any, K comparable](l []T, key func(T) K) map[K]int {
	out := map[K]int{}
	for i, x := range l {
		if _, taken := out[key(x)]; !taken {
			out[key(x)] = i
		}
	}
	return out
}

func nameOfSource(s api.Source) string { return s.Name }

// lookAtSources asks for what can be told of a bundle unread.
func lookAtSources(sources []api.Source) api.Fault {
	if len(sources) > api.MaxFiles {
		return api.Fault{Code: api.ErrLimit}
	}
	size := 0
	for _, s := range sources {
		size += len(s.Text)
	}
	if size > api.MaxText {
		return api.Fault{Code: api.ErrTooBig}
	}
	first := firsts(sources, nameOfSource)
	for i, s := range sources {
		if first[s.Name] != i {
			return spot{file: i + 1}.fault(api.ErrDup)
		}
	}
	return api.Fault{}
}

func readAll(sources []api.Source) (files, api.Fault) {
	var out files
	for i, s := range sources {
		tree, fault := parse.Parse(s.Text)
		if fault.Code != api.OK {
			fault.File = i + 1
			return nil, fault
		}
		out = append(out, file{tree: tree})
	}
	return out, api.Fault{}
}

// link finds the files that are imported.
func (l files) link(sources []api.Source) api.Fault {
	known := firsts(sources, nameOfSource)
	for i := range l {
		for _, x := range l[i].tree.Imports {
			here := spot{file: i + 1, at: x.At}
			to, ok := known[x.Name]
			if !ok {
				return here.fault(api.ErrImport)
			}
			if slices.Contains(l[i].imports, to) {
				return here.fault(api.ErrDup)
			}
			l[i].imports = append(l[i].imports, to)
		}
	}
	return api.Fault{}
}

func (l files) lookForRings() api.Fault {
	for i, f := range l {
		for n, to := range f.imports {
			if l.lead(to, i) {
				return spot{file: i + 1, at: f.tree.Imports[n].At}.fault(api.ErrCycle)
			}
		}
	}
	return api.Fault{}
}

// lead tells whether imports lead from a file to another one, or they are one.
func (l files) lead(from, to int) bool {
	var passed [api.MaxFiles]bool
	var leads func(int) bool
	leads = func(at int) bool {
		if at == to || passed[at] {
			return at == to
		}
		passed[at] = true
		return slices.ContainsFunc(l[at].imports, leads)
	}
	return leads(from)
}
