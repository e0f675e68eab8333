// Package fields: what the fields of a type say, one by one. Each call of package table asks first whether the whole table is good: that is too much for each field and each entry of a message, so a layer that has asked it once asks here.
package fields

import (
	"math/bits"
	"slices"

	"cartouche/api"
	"cartouche/scalar"
)

// LastUpTo tells, of fields by rising numbers, the last one whose number is not above that one.
func LastUpTo(l []api.FieldType, number int) (api.FieldType, bool) {
	first, left := 0, len(l)
	for range bits.Len(uint(left)) { // so many halvings leave one
		half := left / 2
		if l[first+half].Number <= number {
			first += half
		}
		left -= half
	}
	if left == 0 || l[first].Number > number {
		return api.FieldType{}, false
	}
	return l[first], true
}

// Find tells, of fields by rising numbers, the one with that number.
func Find(l []api.FieldType, number int) (api.FieldType, bool) {
	f, ok := LastUpTo(l, number)
	if !ok || f.Number != number {
		return api.FieldType{}, false
	}
	return f, true
}

// Named tells the one of a list with that name.
func Named(l []api.FieldType, name string) (api.FieldType, bool) {
	return firstOf(l, func(f api.FieldType) bool { return f.Name == name })
}

// firstOf tells the first of a list that is so.
func firstOf[T any](l []T, isSo func(T) bool) (T, bool) {
	i := slices.IndexFunc(l, isSo)
	if i < 0 {
		var none T
		return none, false
	}
	return l[i], true
}

// ValueWire tells the wire kind in which a field's values stand one by one; ErrArg, if its kind is none.
func ValueWire(f api.FieldType) (int, api.Errno) {
	if f.Label == api.Map { // its values stand in a chunk, each with its key
		return api.Chunk, api.OK
	}
	return scalar.Wire(f.Kind)
}

// TakesValue tells whether a field takes entries of its number and that wire kind as values.
func TakesValue(f api.FieldType, kind int) bool {
	own, e := ValueWire(f)
	return e == api.OK && kind == own
}

// TakesRow tells whether it takes them as rows of values.
func TakesRow(f api.FieldType, kind int) bool {
	isList := f.Label == api.Repeated || f.Label == api.Packed
	return isList && scalar.Numeric(f.Kind) && kind == api.Chunk
}

// IsWay tells whether a path can go on through a field, into the one message that it holds.
func IsWay(f api.FieldType) bool { return f.Label == api.Optional && f.Kind == api.Message }

// Symbol tells the first of an enum's symbols that is so.
func Symbol(x api.Type, isSo func(api.Symbol) bool) (api.Symbol, bool) {
	return firstOf(x.Symbols, isSo)
}

// HasSymbol tells whether an enum has one with that number.
func HasSymbol(x api.Type, number uint64) bool {
	_, ok := Symbol(x, func(s api.Symbol) bool { return uint64(s.Number) == number })
	return ok
}

// IsDefault tells whether a typed value is its kind's default. What its kind does not use is empty, so that it need not be told; of a message it is never asked.
func IsDefault(v api.Val) bool { return v.N == 0 && len(v.B) == 0 }
