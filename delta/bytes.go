package delta

import (
	"cartouche/api"
	"cartouche/interp"
	"cartouche/model"
	"cartouche/wire"
)

// The numbers of the entries within a step's.
const (
	ofPath = iota + 1
	ofPut
	ofTake
	ofKeep
)

// written tells a step as an entry.
func written(t api.Table, index int, s Step) (api.Entry, api.Errno) {
	place, e := typeAt(t.Types, index, s)
	if e != api.OK {
		return api.Entry{}, e
	}
	what, e := done(t, place, s)
	if e != api.OK {
		return api.Entry{}, e
	}
	b, e := wire.Join([]api.Entry{chunk(ofPath, pathBytes(s.Path)), what})
	return chunk(s.Do, b), e
}

func chunk(number int, b []byte) api.Entry { return api.Entry{Number: number, Kind: api.Chunk, B: b} }

func pathBytes(path []int) []byte {
	var out []byte
	for _, number := range path {
		out = append(out, wire.PutVarint(uint64(number))...)
	}
	return out
}

// done tells, as an entry, what a step does to a message of that type.
func done(t api.Table, place int, s Step) (api.Entry, api.Errno) {
	switch s.Do {
	case Put:
		b, e := fieldBytes(t, place, s.F)
		return chunk(ofPut, b), e
	case Take:
		if s.F.Number < 1 || s.F.Number > api.MaxNumber {
			return api.Entry{}, api.ErrNumber
		}
		return api.Entry{Number: ofTake, N: uint64(s.F.Number)}, api.OK
	}
	b, e := wire.Join(s.E)
	return chunk(ofKeep, b), e
}

// fieldBytes tells a field that would come back from its bytes.
func fieldBytes(t api.Table, place int, f api.Field) ([]byte, api.Errno) {
	m := alone(f)
	if isNormal, _ := model.Normal(t, place, m); isNormal {
		return interp.Encode(t, place, m)
	}
	if e := typeFault(t, place, m); e != api.OK {
		return nil, e
	}
	return nil, api.ErrRange
}
