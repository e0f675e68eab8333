package interp

import (
	"cartouche/api"
	"cartouche/fields"
	"cartouche/scalar"
	"cartouche/wire"
)

// cursor goes through bytes once, from the first on: those of a message of that depth, or of a part of it.
type cursor struct {
	types []api.Type
	bytes []byte
	at    int
	depth int
}

// pass goes on behind what was read, or throws why it could not be read.
func (c *cursor) pass(next int, e api.Errno) {
	if e != api.OK {
		panic(e)
	}
	c.at = next
}

func (c *cursor) isAtEnd() bool { return c.at == len(c.bytes) }

func (c *cursor) tag() (number, kind int) {
	number, kind, next, e := wire.GetTag(c.bytes, c.at)
	c.pass(next, e)
	return number, kind
}

func (c *cursor) entry() api.Entry {
	x, next, e := wire.GetEntry(c.bytes, c.at)
	c.pass(next, e)
	return x
}

// chunk tells a cursor for a chunk's bytes: what would go past them finds their end.
func (c *cursor) chunk() cursor {
	b, next, e := wire.GetChunk(c.bytes, c.at)
	c.pass(next, e)
	return cursor{types: c.types, bytes: b, depth: c.depth}
}

// value reads a value of a kind: a message anew.
func (c *cursor) value(kind, ref int) api.Val {
	if kind == api.Message {
		m := make([]api.Msg, 1)
		c.within(ref, &m[0])
		return api.Val{M: m}
	}
	v, next, e := scalar.Get(kind, c.bytes, c.at)
	c.pass(next, e)
	if kind == api.Enum && !fields.HasSymbol(c.types[ref], v.N) {
		panic(api.ErrSymbol)
	}
	return v
}

// within reads a chunk's bytes into a message.
func (c *cursor) within(ref int, m *api.Msg) {
	inner := c.chunk()
	inner.enter()
	inner.fill(c.types[ref], m)
}

// enter goes down into a message.
func (c *cursor) enter() {
	if c.depth == api.MaxDepth {
		panic(api.ErrTooDeep)
	}
	c.depth++
}

// The numbers of the entries in a map's chunk.
const (
	keyNumber = 1
	valNumber = 2
)

// pair reads a key and its value.
func (c *cursor) pair(f api.FieldType) (key, val api.Val) {
	inner := c.chunk()
	keyWire, _ := scalar.Wire(f.Key)
	valWire, _ := scalar.Wire(f.Kind)
	for !inner.isAtEnd() {
		from := inner.at
		number, kind := inner.tag()
		switch {
		case number == keyNumber && kind == keyWire:
			key = inner.value(f.Key, 0)
		case number == valNumber && kind == valWire:
			val = inner.value(f.Kind, f.Ref)
		default:
			inner.at = from
			inner.entry()
		}
	}
	if f.Kind == api.Message && len(val.M) == 0 {
		inner.enter()
		val.M = make([]api.Msg, 1)
	}
	return key, val
}
