package wire

import (
	"cartouche/api"
)

// PutTag writes a tag.
func PutTag(number, kind int) ([]byte, api.Errno) {
	if e := tagFault(number, kind); e != api.OK {
		return nil, e
	}
	return PutVarint(tag(number, kind)), api.OK
}

func tagFault(number, kind int) api.Errno {
	switch {
	case number < 1 || number > api.MaxNumber:
		return api.ErrNumber
	case !isKind(kind):
		return api.ErrKind
	}
	return api.OK
}

func isKind(kind int) bool {
	switch kind {
	case api.Varint, api.Fix64, api.Chunk, api.Fix32:
		return true
	}
	return false
}

func tag(number, kind int) uint64 {
	return uint64(number)<<kindBits | uint64(kind)
}

// GetTag reads one.
func GetTag(b []byte, at int) (number, kind, next int, e api.Errno) {
	n, next, e := GetVarint(b, at)
	if e != api.OK {
		return 0, 0, 0, e
	}
	// Asked in 64 bits ahead of tagFault, since a great number might not fit in an int.
	if n>>kindBits > api.MaxNumber {
		return 0, 0, 0, api.ErrNumber
	}
	number, kind = int(n>>kindBits), int(n&kindMask)
	if e := tagFault(number, kind); e != api.OK {
		return 0, 0, 0, e
	}
	return number, kind, next, api.OK
}

// PutEntry writes an entry.
func PutEntry(x api.Entry) ([]byte, api.Errno) {
	if e := entryFault(x); e != api.OK {
		return nil, e
	}
	return addEntry(nil, x), api.OK
}

func entryFault(x api.Entry) api.Errno {
	if e := tagFault(x.Number, x.Kind); e != api.OK {
		return e
	}
	// Of a Fix32 too B must be empty: it would be lost, and what is read would be another entry.
	fits := len(x.B) == 0
	switch x.Kind {
	case api.Chunk:
		fits = x.N == 0
	case api.Fix32:
		fits = fits && x.N <= fix32Most
	}
	if !fits {
		return api.ErrRange
	}
	return api.OK
}

// addEntry writes an entry that has no fault.
func addEntry(out []byte, x api.Entry) []byte {
	out = addVarint(out, tag(x.Number, x.Kind))
	switch x.Kind {
	case api.Fix64:
		return addWord(out, x.N, fix64Size)
	case api.Fix32:
		return addWord(out, x.N, fix32Size)
	case api.Chunk:
		return addChunk(out, x.B)
	}
	return addVarint(out, x.N)
}

// GetEntry reads one.
func GetEntry(b []byte, at int) (x api.Entry, next int, e api.Errno) {
	x.Number, x.Kind, next, e = GetTag(b, at)
	if e != api.OK {
		return api.Entry{}, 0, e
	}
	switch x.Kind {
	case api.Varint:
		x.N, next, e = GetVarint(b, next)
	case api.Fix64:
		x.N, next, e = GetFix64(b, next)
	case api.Fix32:
		x.N, next, e = getWord(b, next, fix32Size)
	case api.Chunk:
		x.B, next, e = GetChunk(b, next)
	}
	if e != api.OK {
		return api.Entry{}, 0, e
	}
	return x, next, api.OK
}

// Split reads all entries.
func Split(b []byte) ([]api.Entry, api.Errno) {
	var l []api.Entry
	for at := 0; at < len(b); {
		x, next, e := GetEntry(b, at)
		if e != api.OK {
			return nil, e
		}
		l, at = append(l, x), next
	}
	return l, api.OK
}

// Join writes them.
func Join(l []api.Entry) ([]byte, api.Errno) {
	var out []byte
	for _, x := range l {
		if e := entryFault(x); e != api.OK {
			return nil, e
		}
		out = addEntry(out, x)
	}
	return out, api.OK
}
