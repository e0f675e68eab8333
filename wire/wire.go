// Package wire: varints, fixed words, chunks, tags, entries: see DOC.md, chapter 1.
package wire

import (
	"cartouche/api"
)

const (
	digitBits = 7                 // bits of a number in one byte of a varint
	moreFlag  = 1 << digitBits    // set on every byte of a varint but its last
	digitMask = moreFlag - 1      // what a varint's byte adds to the number
	lastByte  = 64 / digitBits    // index of the last byte that a varint may have
	lastMost  = 1                 // more than that at lastByte would not fit in 64 bits
	kindBits  = 3                 // bits of a tag that are its wire kind
	kindMask  = 1<<kindBits - 1   // those bits
	fix32Size = 4                 // bytes of a Fix32
	fix64Size = 2 * fix32Size     // bytes of a Fix64
	fix32Most = uint64(1<<32 - 1) // the greatest number of a Fix32
)

// PutVarint writes a varint.
func PutVarint(n uint64) []byte {
	return addVarint(make([]byte, 0, Size(n)), n)
}

func addVarint(out []byte, n uint64) []byte {
	for ; n >= moreFlag; n >>= digitBits {
		out = append(out, byte(n&digitMask|moreFlag))
	}
	return append(out, byte(n))
}

// GetVarint reads one.
func GetVarint(b []byte, at int) (n uint64, next int, e api.Errno) {
	if outside(b, at) {
		return 0, 0, api.ErrArg
	}
	e = api.ErrEnd
reading:
	for i, c := range b[at:] {
		n |= uint64(c&digitMask) << (digitBits * i)
		switch {
		case i == lastByte && c > lastMost:
			e = api.ErrVarint
			break reading
		case c < moreFlag:
			next, e = at+i+1, api.OK
			break reading
		}
	}
	if e != api.OK {
		return 0, 0, e
	}
	return n, next, api.OK
}

// outside tells whether no reading may begin at a place; the place behind the last byte is none of these.
func outside(b []byte, at int) bool { return at < 0 || at > len(b) }

// Size tells how many bytes it has.
func Size(n uint64) int {
	size := 1
	for n >>= digitBits; n > 0; n >>= digitBits {
		size++
	}
	return size
}

// ZigZag folds a signed number.
func ZigZag(n int64) uint64 {
	twice := uint64(n) << 1
	if n < 0 {
		// In two's complement -x - 1 turns all bits of x round, so that nothing overflows at -2^63.
		return ^twice
	}
	return twice
}

// ZagZig unfolds it.
func ZagZig(u uint64) int64 {
	half := u >> 1
	if u&1 == 1 {
		return int64(^half)
	}
	return int64(half)
}

// PutFix32 writes four bytes.
func PutFix32(n uint32) []byte {
	return addWord(make([]byte, 0, fix32Size), uint64(n), fix32Size)
}

// PutFix64 writes eight bytes.
func PutFix64(n uint64) []byte {
	return addWord(make([]byte, 0, fix64Size), n, fix64Size)
}

func addWord(out []byte, n uint64, size int) []byte {
	for i := range size {
		out = append(out, byte(n>>(8*i)))
	}
	return out
}

// GetFix32 reads them.
func GetFix32(b []byte, at int) (n uint32, next int, e api.Errno) {
	word, next, e := getWord(b, at, fix32Size)
	return uint32(word), next, e
}

// GetFix64 reads them.
func GetFix64(b []byte, at int) (n uint64, next int, e api.Errno) {
	return getWord(b, at, fix64Size)
}

func getWord(b []byte, at, size int) (n uint64, next int, e api.Errno) {
	if outside(b, at) {
		return 0, 0, api.ErrArg
	}
	if len(b)-at < size {
		return 0, 0, api.ErrEnd
	}
	next = at + size
	for i, c := range b[at:next] {
		n |= uint64(c) << (8 * i)
	}
	return n, next, api.OK
}

// PutChunk writes bytes with their number ahead.
func PutChunk(c []byte) []byte {
	size := uint64(len(c))
	return addChunk(make([]byte, 0, Size(size)+len(c)), c)
}

func addChunk(out, c []byte) []byte {
	return append(addVarint(out, uint64(len(c))), c...)
}

// GetChunk reads them.
func GetChunk(b []byte, at int) (c []byte, next int, e api.Errno) {
	size, from, e := GetVarint(b, at)
	if e != api.OK {
		return nil, 0, e
	}
	// Held against the rest in 64 bits: as an int the size could fall below 0, or its sum with the place.
	if size > uint64(len(b)-from) {
		return nil, 0, api.ErrEnd
	}
	next = from + int(size)
	c = make([]byte, size)
	copy(c, b[from:next])
	return c, next, api.OK
}
