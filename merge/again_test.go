package merge_test

import (
	"fmt"
	"slices"
	"strings"
	"testing"

	"cartouche/api"
	"cartouche/merge"
	"cartouche/samples"
	"cartouche/table"
)

// In what follows the chapter's words of paths and masks are read a second time, text by text.

func goesOn(f api.FieldType) bool { return f.Label == api.Optional && f.Kind == api.Message }

// fieldsAgain tells the fields that a path names, if it is one.
func fieldsAgain(x api.Table, index int, path string) ([]api.FieldType, bool) {
	names := strings.Split(path, ".")
	var l []api.FieldType
	for i, name := range names {
		f, e := table.Named(x, index, name)
		if e != api.OK || i < len(names)-1 && !goesOn(f) {
			return nil, false
		}
		l, index = append(l, f), f.Ref
	}
	return l, true
}

func valueAgain(x api.Table, index int, m api.Msg, path string) (api.Field, api.Errno) {
	l, ok := fieldsAgain(x, index, path)
	if !ok {
		return api.Field{}, api.ErrName
	}
	for i := slices.IndexFunc(m.Fields, func(o api.Field) bool { return o.Number == l[0].Number }); i >= 0; {
		if len(l) == 1 {
			return m.Fields[i], api.OK
		}
		m, l = m.Fields[i].Vals[0].M[0], l[1:]
		i = slices.IndexFunc(m.Fields, func(o api.Field) bool { return o.Number == l[0].Number })
	}
	return api.Field{}, api.ErrNone
}

// rests tells what is left of those paths that begin with a name and a dot.
func rests(mask []string, name string) []string {
	var l []string
	for _, path := range mask {
		if rest, ok := strings.CutPrefix(path, name+"."); ok {
			l = append(l, rest)
		}
	}
	return l
}

func keptAgain(x api.Table, index int, m api.Msg, mask []string) api.Msg {
	var out api.Msg
	for _, own := range m.Fields {
		f, _ := table.Field(x, index, own.Number)
		if slices.Contains(mask, f.Name) {
			out.Fields = append(out.Fields, own)
		} else if l := rests(mask, f.Name); len(l) > 0 {
			out.Fields = append(out.Fields, field(own.Number, in(keptAgain(x, f.Ref, own.Vals[0].M[0], l))))
		}
	}
	return out
}

func leftAgain(x api.Table, index int, m api.Msg, mask []string) api.Msg {
	out := unknown(m.Unknown...)
	for _, own := range m.Fields {
		f, _ := table.Field(x, index, own.Number)
		if slices.Contains(mask, f.Name) {
			continue
		}
		if l := rests(mask, f.Name); len(l) > 0 {
			own = field(own.Number, in(leftAgain(x, f.Ref, own.Vals[0].M[0], l)))
		}
		out.Fields = append(out.Fields, own)
	}
	return out
}

func pathsAgain(x api.Table, index int, m api.Msg) []string {
	var l []string
	for _, own := range m.Fields {
		f, _ := table.Field(x, index, own.Number)
		if !goesOn(f) || len(own.Vals[0].M[0].Fields) == 0 {
			l = append(l, f.Name)
			continue
		}
		for _, path := range pathsAgain(x, f.Ref, own.Vals[0].M[0]) {
			l = append(l, f.Name+"."+path)
		}
	}
	return l
}

// pathOf tells a path of a type that has fields.
func pathOf(m *samples.Maker, x api.Table, index int) string {
	f := samples.Pick(m, x.Types[index].Fields...)
	if !goesOn(f) || len(x.Types[f.Ref].Fields) == 0 || m.Below(3) == 0 {
		return f.Name
	}
	return f.Name + "." + pathOf(m, x, f.Ref)
}

func maskOf(m *samples.Maker, x api.Table, index int) []string {
	var l []string
	for range m.Below(5) * m.Below(3) * min(len(x.Types[index].Fields), 1) {
		l = append(l, pathOf(m, x, index))
	}
	return l
}

// bent tells a path with one thing changed, so that it may be none.
func bent(m *samples.Maker, path string) string {
	at := m.Below(len(path) + 1)
	some := samples.Pick(m, ".", "x", "m", "a", "", ".x", "l.", "f1", "f2", "\x00")
	return path[:at] + some + path[min(len(path), at+m.Below(3)):]
}

func TestMergeAgain(t *testing.T) {
	m := samples.New(101)
	for range 3000 {
		x, index := m.Sample()
		a, b := m.Message(x, index, 3), m.Message(x, index, 3)
		got, e := merge.Merge(x, index, a, b)
		if want := samples.Merged(x, index, a, b); e != api.OK || told(got) != told(want) {
			t.Errorf("Merge(%s; %s): %s, error %d; want %s", told(a), told(b), told(got), e, told(want))
		}
	}
}

func TestMasksAgain(t *testing.T) {
	m := samples.New(102)
	var into, cut int
	for range 5000 {
		x, index := m.Sample()
		a, mask := m.Message(x, index, 4), maskOf(m, x, index)
		kept, e := merge.Keep(x, index, a, mask)
		left, e2 := merge.Drop(x, index, a, mask)
		want, rest := keptAgain(x, index, a, mask), leftAgain(x, index, a, mask)
		if e != api.OK || e2 != api.OK || told(kept) != told(want) || told(left) != told(rest) {
			t.Errorf("%s, mask %q: kept %s, error %d, left %s, error %d; want %s and %s", told(a), mask, told(kept), e, told(left), e2, told(want), told(rest))
		}
		if len(kept.Fields) > 0 && len(left.Fields) > 0 {
			cut++
		}
		if strings.Contains(strings.Join(mask, " "), ".") && len(kept.Fields) > 0 {
			into++
		}
	}
	if cut < 1000 || into < 1000 {
		t.Errorf("%d masks cut a message in two, %d with a path that goes on", cut, into)
	}
}

func TestPathsAgain(t *testing.T) {
	m := samples.New(103)
	found := map[api.Errno]int{}
	for range 5000 {
		x, index := m.Sample()
		if len(x.Types[index].Fields) == 0 {
			continue
		}
		a := m.Message(x, index, 4)
		lookAtPaths(t, x, index, a, pathsAgain(x, index, a)...)
		path := pathOf(m, x, index)
		if l := pathsAgain(x, index, a); len(l) > 0 && m.Below(2) == 0 {
			path = samples.Pick(m, l...)
		}
		if m.Below(3) == 0 {
			path = bent(m, path)
		}
		want, e := valueAgain(x, index, a, path)
		lookAtValue(t, x, index, a, path, want, e)
		found[e]++
		_, ofKeep := merge.Keep(x, index, a, []string{path})
		_, ofDrop := merge.Drop(x, index, a, []string{path})
		if (e == api.ErrName) != (ofKeep == api.ErrName) || (e == api.ErrName) != (ofDrop == api.ErrName) {
			t.Errorf("%q: error %d of Value, %d of Keep, %d of Drop", path, e, ofKeep, ofDrop)
		}
	}
	if found[api.OK] < 1000 || found[api.ErrName] < 500 || found[api.ErrNone] < 500 {
		t.Error(fmt.Sprint("answers of Value: ", found))
	}
}
