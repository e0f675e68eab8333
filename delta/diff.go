package delta

import (
	"slices"

	"cartouche/api"
	"cartouche/fields"
	"cartouche/model"
)

// differ gathers the steps between typed messages.
type differ struct {
	types []api.Type
	steps []Step
}

// messages gathers the steps from one message to another one at that path. Each step has a path of its own, so that the steps of messages within can lay theirs over this one.
func (d *differ) messages(index int, path []int, a, b api.Msg) {
	lay := func(s Step) {
		s.Path = path
		d.steps = append(d.steps, copied(s))
	}
	for _, number := range numbers(a, b) {
		was, wasThere := fieldOf(a, number)
		is, isThere := fieldOf(b, number)
		own, _ := fields.Find(d.types[index].Fields, number)
		switch {
		case !isThere:
			lay(Step{Do: Take, F: api.Field{Number: number}})
		case wasThere && fields.IsWay(own):
			d.messages(own.Ref, append(path, number), *within(&was), *within(&is))
		case !wasThere || !model.Equal(alone(was), alone(is)):
			lay(Step{Do: Put, F: is})
		}
	}
	if !model.Equal(api.Msg{Unknown: a.Unknown}, api.Msg{Unknown: b.Unknown}) {
		lay(Step{Do: Keep, E: b.Unknown})
	}
}

// copied tells a step in new memory.
func copied(s Step) Step {
	m := model.Copy(api.Msg{Fields: []api.Field{s.F}, Unknown: s.E})
	return Step{Do: s.Do, Path: slices.Clone(s.Path), F: m.Fields[0], E: m.Unknown}
}

// alone tells the message that has one field, and nothing else.
func alone(f api.Field) api.Msg { return api.Msg{Fields: []api.Field{f}} }

// numbers tells those of the fields of both messages, rising, each once.
func numbers(a, b api.Msg) []int {
	var l []int
	for _, f := range slices.Concat(a.Fields, b.Fields) {
		l = append(l, f.Number)
	}
	slices.Sort(l)
	return slices.Compact(l)
}

// fieldOf tells a typed message's field, if it is there.
func fieldOf(m api.Msg, number int) (api.Field, bool) {
	i, ok := fields.Place(m, number)
	if !ok {
		return api.Field{}, false
	}
	return m.Fields[i], true
}
