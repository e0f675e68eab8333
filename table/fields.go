package table

import (
	"math/bits"

	"cartouche/api"
)

// lastUpTo tells, of fields by rising numbers, the last one whose number is not above that one.
func lastUpTo(fields []api.FieldType, number int) (api.FieldType, bool) {
	first, left := 0, len(fields)
	for range bits.Len(uint(left)) { // so many halvings leave one
		half := left / 2
		if fields[first+half].Number <= number {
			first += half
		}
		left -= half
	}
	if left == 0 || fields[first].Number > number {
		return api.FieldType{}, false
	}
	return fields[first], true
}

func fieldOf(fields []api.FieldType, number int) (api.FieldType, bool) {
	f, ok := lastUpTo(fields, number)
	return f, ok && f.Number == number
}
