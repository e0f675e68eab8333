package evolve_test

import (
	"math"
	"testing"

	"cartouche/api"
	"cartouche/evolve"
	"cartouche/samples"
)

// numbered tells a message with fields of these numbers.
func numbered(name string, l ...int) api.Type {
	x := messageOf(name)
	for i, n := range l {
		x.Fields = append(x.Fields, api.FieldType{Name: "f" + string(rune('a'+i)), Number: n, Kind: api.Bool})
	}
	return x
}

func TestP18_2Fresh(t *testing.T) {
	const top = api.MaxNumber
	for _, row := range []struct{ old, new, want []int }{
		{nil, nil, nil},
		{[]int{1, 2}, []int{1, 2}, nil},
		{[]int{1, 2}, nil, nil},
		{[]int{1, 2}, []int{2}, nil},
		{nil, []int{1, 5, top}, []int{1, 5, top}},
		{[]int{5}, []int{1, 5, top}, []int{1, top}},
		{[]int{2, 4}, []int{1, 3, 5}, []int{1, 3, 5}},
		{[]int{1, 3, 5}, []int{1, 2, 3, 4, 5, 6}, []int{2, 4, 6}},
		{[]int{top}, []int{top - 1}, []int{top - 1}},
	} {
		lookAtFresh(t, "by numbers", tableOf(numbered("M", row.old...)), tableOf(numbered("M", row.new...)), "M", api.OK, row.want...)
	}
}

// TestP18_2Other sees that names, kinds and labels do not matter, nor other types.
func TestP18_2Other(t *testing.T) {
	new := turned(em(), func(l []api.Type) {
		l[1].Fields[0].Kind, l[1].Fields[1].Name = api.String, "other"
		l[1].Fields[2] = api.FieldType{Name: "m", Number: 9, Kind: api.Bytes}
	})
	lookAtFresh(t, "changed", em(), new, "M", api.OK, 9)
	lookAtFresh(t, "the other way", new, em(), "M", api.OK, 3)
	old := tableOf(numbered("A", 1), numbered("B", 2), numbered("A.B", 3))
	new = tableOf(numbered("B", 4), numbered("A", 5), numbered("A.B", 3, 6))
	lookAtFresh(t, "each by its name", old, new, "A", api.OK, 5)
	lookAtFresh(t, "each by its name", old, new, "B", api.OK, 4)
	lookAtFresh(t, "each by its name", old, new, "A.B", api.OK, 6)
	lookAtFresh(t, "a number that was reserved", reserving(ranges(1, 9)), tableOf(numbered("M", 4, 12)), "M", api.OK, 4, 12)
}

// TestP18_2NoMessage has names that are in one table alone, an enum's, or none.
func TestP18_2NoMessage(t *testing.T) {
	zero := api.Symbol{Name: "Z"}
	old := tableOf(messageOf("M", api.FieldType{Name: "x", Number: 1, Kind: api.Bool}), messageOf("Old"), enumOf("E", zero), enumOf("EM", zero), messageOf("ME"), enumOf("M.E", zero))
	new := tableOf(messageOf("M", api.FieldType{Name: "y", Number: 2, Kind: api.Bool}), messageOf("New"), enumOf("E", zero), messageOf("EM"), enumOf("ME", zero), enumOf("M.E", zero))
	lookAtFresh(t, "in both", old, new, "M", api.OK, 2)
	for _, name := range []string{"Old", "New", "E", "EM", "ME", "M.E", "N", "", "m", "M.", ".M", "M.E.F", "x", "Z", "M ", "\xff"} {
		lookAtFresh(t, "not in both", old, new, name, api.ErrNone)
		lookAtFresh(t, "in no table", api.Table{}, api.Table{}, name, api.ErrNone)
		lookAtFresh(t, "in none of the old", api.Table{}, new, name, api.ErrNone)
		lookAtFresh(t, "in none of the new", old, api.Table{}, name, api.ErrNone)
	}
}

// TestP18_1P18_2NotGood has tables that are not good on either side, and on both: that is told ahead of a name that is none.
func TestP18_1P18_2NotGood(t *testing.T) {
	for _, w := range samples.WrongTables() {
		lookAtRefused(t, w.What, w.Table, em())
		lookAtRefused(t, w.What, em(), w.Table)
		lookAtRefused(t, w.What, w.Table, w.Table)
		lookAtRefused(t, w.What, api.Table{}, w.Table)
		lookAtRefused(t, w.What, w.Table, api.Table{})
	}
}

// TestP18_2Wider has each two kinds, and numbers that are none.
func TestP18_2Wider(t *testing.T) {
	wider := widerKinds()
	if len(wider) != 10 {
		t.Fatalf("%d pairs", len(wider))
	}
	numbers := []int{math.MinInt, -1 << 32, 1 << 32, 1<<32 + api.Bool, 1<<32 + api.Int32, math.MaxInt}
	for n := -3; n < 40; n++ {
		numbers = append(numbers, n)
	}
	count := 0
	for _, old := range numbers {
		for _, new := range numbers {
			_, want := wider[[2]int{old, new}]
			if evolve.Wider(old, new) != want {
				t.Errorf("Wider(%d, %d) is %v", old, new, !want)
			}
			if want {
				count++
			}
		}
	}
	if count != 10 {
		t.Errorf("%d are wider", count)
	}
}
