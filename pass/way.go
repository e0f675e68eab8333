package pass

import (
	"slices"

	"cartouche/api"
	"cartouche/evolve"
	"cartouche/interp"
	"cartouche/model"
)

// side is a message's type, by which messages are written and read.
type side struct {
	table api.Table
	index int
}

// sides tells both tables' types of that name, and refuses what no call takes.
func sides(first, second api.Table, name string, m api.Msg) (here, there side, e api.Errno) {
	// Of tables and names Fresh refuses the same, in the same order: its numbers aren't asked for.
	if _, e := evolve.Fresh(first, second, name); e != api.OK {
		return side{}, side{}, e
	}
	here, there = sideOf(first, name), sideOf(second, name)
	if isTyped, _ := model.Typed(first, here.index, m); !isTyped {
		return side{}, side{}, api.ErrType
	}
	return here, there, api.OK
}

// sideOf tells the type of that name, which the table has.
func sideOf(t api.Table, name string) side {
	return side{t, slices.IndexFunc(t.Types, func(x api.Type) bool { return x.Name == name })}
}

// leg tells what becomes of a message on a part of its way.
type leg func(api.Msg) (api.Msg, api.Errno)

// to tells the leg that ends on another side: what this one writes that one reads.
func (s side) to(other side) leg {
	return func(m api.Msg) (api.Msg, api.Errno) {
		b, e := interp.Encode(s.table, s.index, m)
		if e != api.OK {
			return api.Msg{}, e
		}
		return interp.Decode(other.table, other.index, b)
	}
}

func thereAndBack(here, there side) []leg { return []leg{here.to(there), there.to(here)} }

// carried tells what a message is at the end of a way, or the first leg's error that has one.
func carried(way []leg, m api.Msg) (api.Msg, api.Errno) {
	for _, through := range way {
		var e api.Errno
		if m, e = through(m); e != api.OK {
			return api.Msg{}, e
		}
	}
	return m, api.OK
}
