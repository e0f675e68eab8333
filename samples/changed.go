package samples

import (
	"math"

	"cartouche/api"
)

// Changed tells a message with one thing changed by chance.
func (m *Maker) Changed(x api.Msg) api.Msg {
	out := Copy(x)
	count := 0
	changeAt(&out, func() bool { count++; return false }, m)
	place, at := m.Below(count), 0
	changeAt(&out, func() bool { at++; return at-1 == place }, m)
	return out
}

// changeAt changes what stands where it is told to.
func changeAt(x *api.Msg, isHere func() bool, m *Maker) {
	Touch{
		Number: func(n *int) {
			if isHere() {
				*n = Pick(m, *n+1, *n-1, *n+2, 0, 1, 2, 3, 5, -1, api.MaxNumber, api.MaxNumber+1, math.MinInt, math.MaxInt)
			}
		},
		Bits: func(n *uint64) {
			if isHere() {
				*n = Pick(m, 0, 1, 2, 3, *n+1, *n-1, *n^1<<31, *n^1<<32, 1<<31, 1<<31-1, 1<<32, math.MaxUint64, math.MaxUint64-(1<<31-1), math.MaxUint64-(1<<32-1))
			}
		},
		Bytes: func(b *[]byte) {
			if isHere() {
				*b = Pick(m, nil, []byte("a"), []byte("\xff"), append(*b, 0), append([]byte("b"), *b...), []byte("\xc3\xa9"))
			}
		},
		Vals: func(l *[]api.Val) { changeList(m, isHere(), l, Pick(m, Num(0), Num(1), Str("a"), In(Msg()))) },
		Msgs: func(l *[]api.Msg) { changeList(m, isHere(), l, Msg()) },
		Fields: func(l *[]api.Field) {
			changeList(m, isHere(), l, Field(m.FieldNumber(), Pick(m, Num(0), Num(1), Str("a"), In(Msg()))))
		},
		Rest: func(l *[]api.Entry) {
			changeList(m, isHere(), l, api.Entry{Number: m.FieldNumber(), Kind: m.Below(6)})
		},
	}.Message(x)
}

// changeList takes one away, puts one in, or lets two change their places.
func changeList[T any](m *Maker, isSo bool, l *[]T, more T) {
	if !isSo {
		return
	}
	if old := *l; len(old) > 1 && m.Below(2) == 0 {
		i := 1 + m.Below(len(old)-1)
		old[i-1], old[i] = old[i], old[i-1]
		return
	}
	ListChanges(more)[m.Below(4)](l)
}

// ListChanges are ways in which a list is made another one: one more, one less, at its end or at its beginning.
func ListChanges[T any](more T) []func(*[]T) {
	return []func(*[]T){
		func(l *[]T) { *l = append(fresh(*l), more) },
		func(l *[]T) { *l = append([]T{more}, *l...) },
		func(l *[]T) { *l = (*l)[:max(0, len(*l)-1)] },
		func(l *[]T) { *l = (*l)[min(1, len(*l)):] },
	}
}
