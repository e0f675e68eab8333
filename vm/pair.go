package vm

import (
	"slices"

	"cartouche/api"
	"cartouche/fields"
	"cartouche/plan"
	"cartouche/scalar"
)

// The numbers of the entries in a map's chunk.
const (
	keyNumber = 1
	valNumber = 2
)

// pair is a map's chunk that is read: it waits, as its frame does, for a message in it.
type pair struct {
	cursor
	step             plan.Ins
	keyWire, valWire int
	key, val         api.Val
}

func newPair(s plan.Ins, b []byte) *pair {
	p := &pair{cursor: cursor{bytes: b}, step: s}
	p.keyWire, _ = scalar.Wire(s.B)
	p.valWire, _ = scalar.Wire(s.C)
	return p
}

// goOn reads a pair to its end, or to a message in it.
func (r *reader) goOn(f *frame) {
	p := f.pair
	for !p.isAtEnd() {
		number, kind := p.getTag()
		switch {
		case number == keyNumber && kind == p.keyWire:
			p.key = p.get(p.step.B)
		case number == valNumber && kind == p.valWire && p.step.C == api.Message:
			r.enter(p.step.D, p.getChunk(), api.Msg{}, p.step)
			return
		case number == valNumber && kind == p.valWire:
			p.val = r.value(p)
		default:
			p.rest(number, kind)
		}
	}
	if p.step.C == api.Message && len(p.val.M) == 0 {
		// A message that lacks is entered, too: there is no byte in it.
		r.enter(p.step.D, nil, api.Msg{}, p.step)
		return
	}
	f.pair = nil
	f.put(p)
}

// value reads a pair's value that is no message.
func (r *reader) value(p *pair) api.Val {
	v := p.get(p.step.C)
	if p.step.C == api.Enum {
		r.symbol(p.step.D, v)
	}
	return v
}

// put lays a pair in the field.
func (f *frame) put(p *pair) {
	own := fields.Present(&f.msg, p.step.A)
	if len(own.Keys) != len(own.Vals) {
		own.Keys, own.Vals = nil, nil
	}
	place, isThere := f.keyPlace(p.step, own.Keys, p.key)
	if isThere {
		own.Vals[place] = p.val
		return
	}
	own.Keys = slices.Insert(own.Keys, place, p.key)
	own.Vals = slices.Insert(own.Vals, place, p.val)
}

// keyPlace tells where a key stands, or where it is put in. In keys that rise it is found by halving: those of a map all do, but of any program's not all need be of one kind.
func (f *frame) keyPlace(s plan.Ins, keys []api.Val, key api.Val) (int, bool) {
	if f.rising[s.A] != s.B && !doRise(s.B, keys) {
		delete(f.rising, s.A)
		return search(s.B, keys, key)
	}
	if f.rising == nil {
		f.rising = map[int]int{}
	}
	f.rising[s.A] = s.B
	return slices.BinarySearchFunc(keys, key, func(a, b api.Val) int {
		order, _ := scalar.Compare(s.B, a, b)
		return order
	})
}

// doRise tells whether all keys are of a kind, and each one is above the one ahead.
func doRise(kind int, keys []api.Val) bool {
	for i, key := range keys {
		order, e := scalar.Compare(kind, keys[max(i-1, 0)], key)
		if e != api.OK || i > 0 && order >= 0 {
			return false
		}
	}
	return true
}

// search looks at all keys: the same one may stand behind one that is greater.
func search(kind int, keys []api.Val, key api.Val) (int, bool) {
	place := len(keys)
	for i, other := range keys {
		order, e := scalar.Compare(kind, other, key)
		switch {
		case e != api.OK:
		case order == 0:
			return i, true
		case order > 0:
			place = min(place, i)
		}
	}
	return place, false
}
