package evolve_test

import (
	"fmt"
	"testing"

	"cartouche/api"
	"cartouche/evolve"
)

// reserving tells a table of the message M with these ranges.
func reserving(l []api.Range) api.Table { return tableOf(api.Type{Name: "M", Reserved: l}) }

func TestP18_1Reserved(t *testing.T) {
	const top = api.MaxNumber
	for _, row := range []struct {
		old, new []api.Range
		class    int
	}{
		{nil, nil, evolve.Same},
		{nil, ranges(9, 9), evolve.Widening},
		{ranges(9, 9), nil, evolve.Breaking},
		{ranges(9, 9), ranges(9, 9), evolve.Same},
		{ranges(9, 9), ranges(8, 8), evolve.Breaking},
		{ranges(9, 10, 11, 12), ranges(9, 12), evolve.Same},
		{ranges(9, 12), ranges(9, 10, 11, 12), evolve.Same},
		{ranges(1, 1, 2, 2, 3, 3), ranges(1, 2, 3, 3), evolve.Same},
		{ranges(1, 3, 4, 6, 8, 9), ranges(1, 1, 2, 6, 8, 8, 9, 9), evolve.Same},
		{ranges(9, 12), ranges(9, 10, 12, 12), evolve.Breaking},
		{ranges(9, 10, 12, 12), ranges(9, 12), evolve.Widening},
		{ranges(9, 10, 12, 12), ranges(9, 10, 11, 12), evolve.Widening},
		{ranges(20, 30), ranges(10, 40), evolve.Widening},
		{ranges(10, 40), ranges(20, 30), evolve.Breaking},
		{ranges(20, 30), ranges(25, 40), evolve.Breaking},
		{ranges(20, 30), ranges(10, 29), evolve.Breaking},
		{ranges(20, 30), ranges(20, 31), evolve.Widening},
		{ranges(20, 30), ranges(19, 30), evolve.Widening},
		{ranges(20, 30), ranges(21, 30), evolve.Breaking},
		{ranges(20, 30), ranges(20, 25, 26, 28, 29, 31), evolve.Widening},
		{ranges(20, 30), ranges(20, 25, 27, 40), evolve.Breaking},
		{ranges(5, 5, 7, 7), ranges(5, 5, 7, 7, 9, 9), evolve.Widening},
		{ranges(5, 5, 7, 7), ranges(5, 5, 9, 9), evolve.Breaking},
		{ranges(5, 5, 7, 7), ranges(7, 7, 9, 9), evolve.Breaking},
		{ranges(1, top), ranges(1, top), evolve.Same},
		{ranges(1, top), ranges(1, top-1), evolve.Breaking},
		{ranges(1, top), ranges(2, top), evolve.Breaking},
		{ranges(1, top-1, top, top), ranges(1, 1, 2, top), evolve.Same},
		{ranges(top, top), ranges(1, top), evolve.Widening},
	} {
		var want []change
		if row.class != evolve.Same {
			want = append(want, change{row.class, evolve.Reserved, "M", 0})
		}
		lookAtDiff(t, fmt.Sprint(row.old, " becomes ", row.new), reserving(row.old), reserving(row.new), want...)
	}
}

// sets tells all ways of writing a set of the numbers from 1 on below count as ranges; the set has a bit for each number.
func sets(count int) map[int][][]api.Range {
	out := map[int][][]api.Range{}
	var lay func(number, set int, l []api.Range)
	lay = func(number, set int, l []api.Range) {
		if number == count {
			out[set] = append(out[set], append([]api.Range{}, l...))
			return
		}
		lay(number+1, set, l)
		lay(number+1, set|1<<number, append(l, api.Range{Low: number, High: number}))
		if last := len(l) - 1; last >= 0 && l[last].High == number-1 {
			wider := append([]api.Range{}, l...)
			wider[last].High = number
			lay(number+1, set|1<<number, wider)
		}
	}
	lay(1, 0, nil)
	return out
}

// TestP18_1ReservedSets holds all sets of few numbers against each other, however they are written.
func TestP18_1ReservedSets(t *testing.T) {
	ways := sets(6)
	if len(ways) != 32 || len(ways[62]) != 16 {
		t.Fatalf("%d sets, of all numbers %d ways", len(ways), len(ways[62]))
	}
	for a, olds := range ways {
		for b, news := range ways {
			var want []change
			switch {
			case a == b:
			case a&b == a:
				want = append(want, change{evolve.Widening, evolve.Reserved, "M", 0})
			default:
				want = append(want, change{evolve.Breaking, evolve.Reserved, "M", 0})
			}
			for _, old := range olds {
				for _, new := range news {
					lookAtDiff(t, fmt.Sprint(old, " becomes ", new), reserving(old), reserving(new), want...)
				}
			}
		}
	}
}

// TestP18_1ReservedAndFields has numbers that are a field's on one side, and reserved on the other.
func TestP18_1ReservedAndFields(t *testing.T) {
	field := tableOf(messageOf("M", api.FieldType{Name: "x", Number: 5, Kind: api.Bool}))
	none := tableOf(messageOf("M"))
	kept := reserving(ranges(5, 5))
	lookAtDiff(t, "a field becomes reserved", field, kept, change{evolve.Breaking, evolve.LostField, "M", 5}, change{evolve.Widening, evolve.Reserved, "M", 0})
	lookAtDiff(t, "a reserved number becomes a field", kept, field, change{evolve.Additive, evolve.NewField, "M", 5}, change{evolve.Breaking, evolve.Reserved, "M", 0})
	lookAtDiff(t, "a number that is not reserved becomes a field", none, field, change{evolve.Additive, evolve.NewField, "M", 5})
	lookAtDiff(t, "one of many becomes a field", reserving(ranges(1, 9)), turned(field, func(l []api.Type) { l[0].Reserved = ranges(1, 4, 6, 9) }),
		change{evolve.Additive, evolve.NewField, "M", 5}, change{evolve.Breaking, evolve.Reserved, "M", 0})
}
