package fields_test

import (
	"slices"
	"testing"

	"cartouche/api"
	"cartouche/fields"
)

// TestPresent puts fields in by all orders of some numbers, and asks for them again.
func TestPresent(t *testing.T) {
	numbers := []int{1, 2, 5, 9, api.MaxNumber}
	orders(numbers, func(order []int) {
		var m api.Msg
		for _, n := range order {
			f := fields.Present(&m, n)
			if f.Number != n || len(f.Keys)+len(f.Vals) > 0 {
				t.Errorf("%v: the field %d is %+v", order, n, *f)
			}
			f.Vals = []api.Val{{N: uint64(n)}}
		}
		for _, n := range order {
			if f := fields.Present(&m, n); len(f.Vals) != 1 || f.Vals[0].N != uint64(n) {
				t.Errorf("%v: the field %d is %+v now", order, n, *f)
			}
		}
		if !slices.IsSortedFunc(m.Fields, func(a, b api.Field) int { return a.Number - b.Number }) || len(m.Fields) != len(numbers) {
			t.Errorf("%v: %+v", order, m.Fields)
		}
	})
}

// orders does something with each order of some numbers.
func orders(l []int, do func([]int)) {
	var lay func(ahead, left []int)
	lay = func(ahead, left []int) {
		if len(left) == 0 {
			do(ahead)
		}
		for i, n := range left {
			lay(append(slices.Clone(ahead), n), slices.Delete(slices.Clone(left), i, i+1))
		}
	}
	lay(nil, l)
}

func TestPlace(t *testing.T) {
	m := api.Msg{Fields: []api.Field{{Number: 2}, {Number: 4}, {Number: 6}}}
	for number, want := range []int{0, 0, 0, 1, 1, 2, 2, 3} {
		if place, ok := fields.Place(m, number); place != want || ok != (number > 0 && number%2 == 0) {
			t.Errorf("%d: place %d, %v", number, place, ok)
		}
	}
	if place, ok := fields.Place(api.Msg{}, 1); place != 0 || ok {
		t.Errorf("none: place %d, %v", place, ok)
	}
}
