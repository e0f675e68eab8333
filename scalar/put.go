package scalar

import (
	"cartouche/api"
	"cartouche/wire"
)

// Put writes a value.
func Put(kind int, v api.Val) ([]byte, api.Errno) {
	if e := fault(kind, v); e != api.OK {
		return nil, e
	}
	switch kind {
	case api.Sint32, api.Sint64:
		return wire.PutVarint(wire.ZigZag(int64(v.N))), api.OK
	case api.Fixed32, api.Sfixed32, api.Float:
		return wire.PutFix32(uint32(v.N)), api.OK
	case api.Fixed64, api.Sfixed64, api.Double:
		return wire.PutFix64(v.N), api.OK
	case api.String, api.Bytes:
		return wire.PutChunk(v.B), api.OK
	}
	return wire.PutVarint(v.N), api.OK
}

// Get reads one.
func Get(kind int, b []byte, at int) (v api.Val, next int, e api.Errno) {
	if !single(kind) {
		return api.Val{}, 0, api.ErrArg
	}
	switch kind {
	case api.String, api.Bytes:
		v.B, next, e = wire.GetChunk(b, at)
	default:
		v.N, next, e = getNumber(kind, b, at)
	}
	if e == api.OK {
		e = fault(kind, v)
	}
	if e != api.OK {
		return api.Val{}, 0, e
	}
	return v, next, api.OK
}

// getNumber reads a number that need not fit its kind.
func getNumber(kind int, b []byte, at int) (n uint64, next int, e api.Errno) {
	switch kind {
	case api.Sint32, api.Sint64:
		n, next, e = wire.GetVarint(b, at)
		return uint64(wire.ZagZig(n)), next, e
	case api.Sfixed32:
		word, next, e := wire.GetFix32(b, at)
		return widened(word), next, e
	case api.Fixed32, api.Float:
		word, next, e := wire.GetFix32(b, at)
		return uint64(word), next, e
	case api.Fixed64, api.Sfixed64, api.Double:
		return wire.GetFix64(b, at)
	}
	return wire.GetVarint(b, at)
}
