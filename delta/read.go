package delta

import (
	"cartouche/api"
	"cartouche/interp"
	"cartouche/wire"
)

// read tells the steps that bytes say: those of steps say them, and others may say something too.
func read(t api.Table, index int, b []byte) ([]Step, api.Errno) {
	l, e := wire.Split(b)
	if e != api.OK {
		return nil, e
	}
	var out []Step
	for _, x := range l {
		s, e := stepOf(t, index, x)
		if e != api.OK {
			return nil, e
		}
		out = append(out, s)
	}
	return out, api.OK
}

func stepOf(t api.Table, index int, x api.Entry) (Step, api.Errno) {
	l, e := wire.Split(x.B)
	if e != api.OK || len(l) != 2 {
		return Step{}, api.ErrSyntax
	}
	path, e := pathOf(l[0].B)
	if e != api.OK {
		return Step{}, e
	}
	s, what := Step{Do: x.Number, Path: path}, l[1]
	place, e := typeAt(t.Types, index, s)
	if e != api.OK {
		return Step{}, e
	}
	switch s.Do {
	case Put:
		s.F, e = fieldIn(t, place, what.B)
	case Take:
		s.F.Number = int(what.N)
	case Keep:
		s.E, e = wire.Split(what.B)
	}
	return s, e
}

func pathOf(b []byte) ([]int, api.Errno) {
	var path []int
	for at := 0; at < len(b); {
		n, next, e := wire.GetVarint(b, at)
		if e != api.OK {
			return nil, e
		}
		path, at = append(path, int(n)), next
	}
	return path, api.OK
}

// fieldIn tells the field that a message's bytes have alone.
func fieldIn(t api.Table, place int, b []byte) (api.Field, api.Errno) {
	m, e := interp.Decode(t, place, b)
	if e != api.OK || len(m.Fields) != 1 {
		return api.Field{}, api.ErrSyntax
	}
	return m.Fields[0], api.OK
}
