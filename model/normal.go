package model

import (
	"cartouche/api"
	"cartouche/fields"
)

// settled tells what stays of a typed message, but for what is in the messages within: its lists hold what was handed in.
func settled(x api.Type, m api.Msg) api.Msg {
	stays := func(f api.Field) bool { return isTold(x, f) }
	isUnknown := func(e api.Entry) bool { return !isTaken(x, e) }
	return api.Msg{Fields: chosen(m.Fields, stays), Unknown: chosen(m.Unknown, isUnknown)}
}

// isSettled tells whether all of it stays.
func isSettled(x api.Type, m api.Msg) bool {
	left := settled(x, m)
	return len(left.Fields) == len(m.Fields) && len(left.Unknown) == len(m.Unknown)
}

// isTold tells whether a field of a typed message is more than if it were not there.
func isTold(x api.Type, f api.Field) bool {
	own, _ := fields.Find(x.Fields, f.Number)
	switch own.Label {
	case api.Plain:
		return !fields.IsDefault(f.Vals[0])
	case api.Repeated, api.Packed, api.Map:
		return len(f.Vals) > 0
	}
	return true
}

func isTaken(x api.Type, e api.Entry) bool {
	own, ok := fields.Find(x.Fields, e.Number)
	return ok && (fields.TakesValue(own, e.Kind) || fields.TakesRow(own, e.Kind))
}
