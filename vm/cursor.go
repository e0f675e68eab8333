package vm

import (
	"cartouche/api"
	"cartouche/scalar"
	"cartouche/wire"
)

// cursor goes through bytes once. What can't be read is thrown.
type cursor struct {
	bytes []byte
	at    int
}

func (c *cursor) isAtEnd() bool { return c.at == len(c.bytes) }

// pass goes on behind what was read.
func (c *cursor) pass(next int, e api.Errno) {
	if e != api.OK {
		panic(e)
	}
	c.at = next
}

func (c *cursor) getTag() (number, kind int) {
	number, kind, next, e := wire.GetTag(c.bytes, c.at)
	c.pass(next, e)
	return number, kind
}

func (c *cursor) getChunk() []byte {
	b, next, e := wire.GetChunk(c.bytes, c.at)
	c.pass(next, e)
	return b
}

// get reads a value of a kind that has no parts.
func (c *cursor) get(kind int) api.Val {
	v, next, e := scalar.Get(kind, c.bytes, c.at)
	c.pass(next, e)
	return v
}

// rest reads what stands behind a tag.
func (c *cursor) rest(number, kind int) api.Entry {
	x := api.Entry{Number: number, Kind: kind}
	switch kind {
	case api.Varint:
		x.N = c.get(api.Uint64).N
	case api.Fix64:
		x.N = c.get(api.Fixed64).N
	case api.Fix32:
		x.N = c.get(api.Fixed32).N
	case api.Chunk:
		x.B = c.getChunk()
	}
	return x
}
