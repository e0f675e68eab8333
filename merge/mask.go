package merge

import (
	"slices"
	"strings"

	"cartouche/api"
	"cartouche/fields"
)

// way is a path as the numbers of the fields that it names.
type way []int

func (w way) isDone() bool { return len(w) == 0 }

// wayOf tells the way of a path, if it is one of the type.
func (l types) wayOf(x api.Type, path string) (way, bool) {
	var w way
	for {
		name, rest, goesOn := strings.Cut(path, ".")
		f, ok := fields.Named(x.Fields, name)
		if !ok || goesOn && !fields.IsWay(f) {
			return nil, false
		}
		w = append(w, f.Number)
		if !goesOn {
			return w, true
		}
		x, path = l[f.Ref], rest
	}
}

// within tells the message in a field through which a path can go on.
func within(own api.Field) api.Msg { return own.Vals[0].M[0] }

// around tells the field of that number with a message in it.
func around(number int, m api.Msg) api.Field {
	return api.Field{Number: number, Vals: []api.Val{{M: []api.Msg{m}}}}
}

// into tells the message to which a way leads: the one without fields, if something that it names is not there.
func (w way) into(m api.Msg) api.Msg {
	for _, number := range w {
		i := slices.IndexFunc(m.Fields, func(f api.Field) bool { return f.Number == number })
		if i < 0 {
			return api.Msg{}
		}
		m = within(m.Fields[i])
	}
	return m
}

// left tells what stays of a message: of what is named, and of what is not, all or nothing; what is not known is never named. A field through which ways go on stays with what is left within it. It shares memory with the message.
func left(m api.Msg, mask []way, stays func(isNamed bool) bool) api.Msg {
	rests := grouped(mask)
	var out api.Msg
	if stays(false) {
		out.Unknown = m.Unknown
	}
	for _, own := range m.Fields {
		rest, isNamed := rests[own.Number]
		switch goesOn := isNamed && !slices.ContainsFunc(rest, way.isDone); {
		case goesOn:
			out.Fields = append(out.Fields, around(own.Number, left(within(own), rest, stays)))
		case stays(isNamed):
			out.Fields = append(out.Fields, own)
		}
	}
	return out
}

// grouped tells, of the first field of each way, the rests of all ways through it.
func grouped(mask []way) map[int][]way {
	rests := map[int][]way{}
	for _, w := range mask {
		rests[w[0]] = append(rests[w[0]], w[1:])
	}
	return rests
}

// lister gathers paths. The names of the fields around the message that it is at stand in bytes that are cut back behind it: messages that are nested deep have long paths, but few.
type lister struct {
	types types
	ahead []byte
	paths []string
}

func (l *lister) list(x api.Type, m api.Msg) {
	for _, own := range m.Fields {
		f, _ := fields.Find(x.Fields, own.Number)
		before := len(l.ahead)
		l.ahead = append(l.ahead, f.Name...)
		if fields.IsWay(f) && len(within(own).Fields) > 0 {
			l.ahead = append(l.ahead, '.')
			l.list(l.types[f.Ref], within(own))
		} else {
			l.paths = append(l.paths, string(l.ahead))
		}
		l.ahead = l.ahead[:before]
	}
}
