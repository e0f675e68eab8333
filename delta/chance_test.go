package delta_test

import (
	"slices"

	"cartouche/api"
	"cartouche/delta"
	"cartouche/model"
	"cartouche/samples"
)

// mixed tells a message with fields of two others: of either by chance, or of none; where a path goes on through one that both have, mixed again.
func mixed(m *samples.Maker, x api.Table, index int, a, b api.Msg) api.Msg {
	for {
		out := unknown(samples.Pick(m, a.Unknown, a.Unknown, b.Unknown, nil)...)
		for _, f := range x.Types[index].Fields {
			was, wasThere := model.Get(a, f.Number)
			is, isThere := model.Get(b, f.Number)
			switch where := m.Below(8); {
			case goesOn(f) && wasThere && isThere && where > 0:
				out.Fields = append(out.Fields, field(f.Number, in(mixed(m, x, f.Ref, was.Vals[0].M[0], is.Vals[0].M[0]))))
			case wasThere && where > 3:
				out.Fields = append(out.Fields, was)
			case isThere && where > 1:
				out.Fields = append(out.Fields, is)
			}
		}
		if ok, _ := model.Typed(x, index, out); ok { // there may be two members of a oneof
			return samples.Copy(out)
		}
	}
}

// twoMessages tells messages of a type that have something in common, mostly.
func twoMessages(m *samples.Maker, x api.Table, index int) (a, b api.Msg) {
	within := 2 + m.Below(5)/4
	a, b = m.Message(x, index, within), m.Message(x, index, within)
	switch m.Below(6) {
	case 0:
		return a, b
	case 1:
		return a, a
	}
	return a, mixed(m, x, index, a, b)
}

// wayIn tells a path by a type's fields, mostly through what a message has, and what is at its end.
func wayIn(m *samples.Maker, x api.Table, index int, a api.Msg) (path []int, at int, there api.Msg) {
	for m.Below(4) > 0 {
		var there, others []api.FieldType
		for _, f := range x.Types[index].Fields {
			if _, ok := model.Get(a, f.Number); goesOn(f) && ok {
				there = append(there, f)
			} else if goesOn(f) {
				others = append(others, f)
			}
		}
		if len(there) == 0 || m.Below(12) == 0 {
			there = others
		}
		if len(there) == 0 || len(others) == len(there) && m.Below(6) > 0 {
			break
		}
		f := samples.Pick(m, there...)
		own, ok := model.Get(a, f.Number)
		if a = (api.Msg{}); ok {
			a = own.Vals[0].M[0]
		}
		path, index = append(path, f.Number), f.Ref
	}
	return path, index, a
}

// someStep tells a step that may mostly be done to a message.
func someStep(m *samples.Maker, x api.Table, index int, a api.Msg) delta.Step {
	path, at, there := wayIn(m, x, index, a)
	others := m.Message(x, at, 2)
	if m.Below(3) > 0 {
		others, _ = model.Settle(x, at, others)
	}
	switch m.Below(4) {
	case 0:
		return keep(others.Unknown, path...)
	case 1:
		if len(there.Fields) == 0 || m.Below(12) == 0 {
			there = others
		}
		if len(there.Fields) > 0 {
			return take(samples.Pick(m, there.Fields...).Number, path...)
		}
		return take(m.FieldNumber(), path...)
	}
	if len(others.Fields) == 0 {
		return keep(nil, path...)
	}
	return put(samples.Pick(m, others.Fields...), path...)
}

// bentStep tells a step with one thing changed.
func bentStep(m *samples.Maker, s delta.Step) delta.Step {
	s.Path = slices.Clone(s.Path)
	switch m.Below(4) {
	case 0:
		s.Do = samples.Pick(m, 0, 1, 2, 3, 4, -1, 1<<40)
	case 1:
		if at := m.Below(len(s.Path) + 1); at < len(s.Path) && m.Below(2) == 0 {
			s.Path[at] = samples.Pick(m, s.Path[at]+1, m.FieldNumber(), 0, -1, 1<<40)
		} else {
			s.Path = slices.Insert(s.Path, at, m.FieldNumber())
		}
	default:
		p := m.Changed(parts(s))
		s.E = p.Unknown
		if len(p.Fields) > 0 {
			s.F = p.Fields[0]
		}
	}
	return s
}

// someSteps tells steps of which each one may mostly be done to what those ahead of it left.
func someSteps(m *samples.Maker, x api.Table, index int, a api.Msg, bent int) []delta.Step {
	var l []delta.Step
	for range m.Below(7) {
		s := someStep(m, x, index, a)
		if m.Below(bent) == 0 {
			s = bentStep(m, s)
		}
		if next, e := doAgain(x, index, a, s); e == api.OK {
			a = next
		}
		l = append(l, s)
	}
	return l
}

// someGiven tells arguments of which each one is as it should be, mostly: bytes are those of steps.
func someGiven(m *samples.Maker) given {
	x, index := m.Sample()
	if m.Below(4) == 0 {
		x = m.SomeTable()
		index = slices.IndexFunc(x.Types, func(y api.Type) bool { return !y.Enum })
	}
	if index < 0 {
		x, index = em(), 1
	}
	g := given{x: x, index: index}
	g.a, g.b = twoMessages(m, x, index)
	g.steps = someSteps(m, x, index, g.a, 20)
	for _, s := range append(someSteps(m, x, index, g.a, 1000), diffAgain(x, index, g.a, g.b)...) {
		b, _ := bytesAgain(x, index, []delta.Step{s})
		g.raw = append(g.raw, b...)
	}
	return g
}

// anyGiven tells the same with something changed: tables that may not be good, any index, messages that may not be typed, any steps and bytes.
func anyGiven(m *samples.Maker) given {
	g := someGiven(m)
	for _, spoil := range []func(){
		func() { g.x = m.AnyTable() },
		func() { g.x = samples.Pick(m, samples.WrongTables()...).Table },
		func() { g.index = samples.Pick(m, m.Below(4)-1, len(g.x.Types), -1<<63, 1<<63-1) },
		func() { g.a = m.Changed(g.a) },
		func() { g.a, g.b = g.b, m.Wild(3) },
		func() { g.b = m.Changed(g.b) },
		func() { g.steps = someSteps(m, em(), 1, msg(), 2) },
		func() { g.steps = append(g.steps, delta.Step{Do: m.Below(5), Path: []int{m.Below(6)}, F: field(1)}) },
		func() { g.raw = m.Bent(g.raw) },
		func() { g.raw = m.Bytes(em(), 1, 3) },
	} {
		if m.Below(8) == 0 {
			spoil()
		}
	}
	return g
}
