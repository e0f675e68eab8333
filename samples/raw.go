package samples

import (
	"slices"

	"cartouche/api"
)

// What stands in bytes, by the document's words: a second time beside wire and scalar.

// Digits tells a varint.
func Digits(n uint64) []byte {
	var out []byte
	for ; n >= 128; n /= 128 {
		out = append(out, byte(n%128+128))
	}
	return append(out, byte(n))
}

// Low tells so many bytes of a number, the lowest first.
func Low(n uint64, count int) []byte {
	var out []byte
	for ; count > 0; count-- {
		out = append(out, byte(n%256))
		n /= 256
	}
	return out
}

// Join tells bytes one behind the other.
func Join(l ...[]byte) []byte { return slices.Concat(l...) }

// Framed tells them as a chunk.
func Framed(l ...[]byte) []byte {
	b := Join(l...)
	return append(Digits(uint64(len(b))), b...)
}

// Tag tells a tag.
func Tag(number, kind int) []byte { return Digits(uint64(number)*8 + uint64(kind)) }

// Inside tells bytes within so many messages, each one in the field of that number.
func Inside(number, around int, b []byte) []byte {
	for range around {
		b = Join(Tag(number, api.Chunk), Framed(b))
	}
	return b
}

// Bare tells what stands behind the tag of a value that has no parts.
func Bare(kind int, v api.Val) []byte {
	switch kind {
	case api.String, api.Bytes:
		return Framed(v.B)
	case api.Sint32, api.Sint64:
		return Digits(v.N<<1 ^ uint64(int64(v.N)>>63))
	}
	return Behind(api.Entry{Kind: Wire(kind), N: v.N})
}

// Behind tells what stands behind an entry's tag.
func Behind(x api.Entry) []byte {
	switch x.Kind {
	case api.Fix64:
		return Low(x.N, 8)
	case api.Fix32:
		return Low(x.N, 4)
	case api.Chunk:
		return Framed(x.B)
	}
	return Digits(x.N)
}

// Spare tells bytes with spare room behind them.
func Spare(b []byte) []byte {
	out := slices.Clone(b)
	Roomy(&out, 8)
	return out
}
