package table_test

import (
	"fmt"
	"math/rand"
	"testing"

	"cartouche/api"
	"cartouche/table"
)

// holds is a message with fields of messages of these types.
func holds(name string, refs ...int) api.Type {
	x := messageOf(name, api.FieldType{Name: "x", Number: 1, Kind: api.Int32}, api.FieldType{Name: "l", Number: 2, Kind: api.String, Label: api.Repeated})
	for i, ref := range refs {
		f := api.FieldType{Name: fmt.Sprint("f", i), Number: 10 + i, Kind: api.Message, Ref: ref}
		switch i % 4 {
		case 0:
			f.Label = api.Optional
		case 1:
			f.Label = api.Repeated
		case 2:
			f.Label, f.Key = api.Map, api.String
		case 3:
			f.Label, f.Oneof = api.Member, len(x.Oneofs)
			x.Oneofs = append(x.Oneofs, fmt.Sprint("o", i))
		}
		x.Fields = append(x.Fields, f)
	}
	return x
}

// lookAtDepths has messages by the types that they hold, and how deep each is.
func lookAtDepths(t *testing.T, what string, refs [][]int, want ...int) {
	t.Helper()
	var x api.Table
	for i, l := range refs {
		x.Types = append(x.Types, holds(fmt.Sprint("M", i), l...))
	}
	for i, n := range want {
		lookAt(t, fmt.Sprintf("%s: Depths of M%d", what, i), depths(x, i), answer{number: n})
	}
}

func TestP7_4Depths(t *testing.T) {
	lookAtDepths(t, "no messages", [][]int{{}}, 1)
	lookAtDepths(t, "itself", [][]int{{0}}, 0)
	lookAtDepths(t, "a chain forth", [][]int{{1}, {2}, {3}, {}}, 4, 3, 2, 1)
	lookAtDepths(t, "a chain back", [][]int{{}, {0}, {1}, {2}}, 1, 2, 3, 4)
	lookAtDepths(t, "the greatest first", [][]int{{}, {0}, {1, 0}, {0, 1}}, 1, 2, 3, 3)
	lookAtDepths(t, "two ways", [][]int{{1, 2}, {3}, {4}, {}, {3}}, 4, 2, 3, 1, 2)
	lookAtDepths(t, "one type in all labels", [][]int{{1, 1, 1, 1}, {}}, 2, 1)
	lookAtDepths(t, "the deep one as a Map's", [][]int{{1, 1, 2, 1}, {}, {3}, {}}, 3, 1, 2, 1)
	lookAtDepths(t, "the deep one as a Member", [][]int{{1, 1, 1, 2}, {}, {3}, {}}, 3, 1, 2, 1)
	lookAtDepths(t, "the deep one Repeated", [][]int{{1, 2, 1, 1}, {}, {3}, {}}, 3, 1, 2, 1)
	lookAtDepths(t, "a ring of two", [][]int{{1}, {0}}, 0, 0)
	lookAtDepths(t, "a ring of three", [][]int{{1}, {2}, {0}}, 0, 0, 0)
	lookAtDepths(t, "into a ring", [][]int{{1}, {2}, {1}, {0}, {}}, 0, 0, 0, 0, 1)
	lookAtDepths(t, "a ring beside a chain", [][]int{{1, 3}, {2}, {}, {3}}, 0, 2, 1, 0)
	lookAtDepths(t, "itself in a Map", [][]int{{1, 1, 0}, {}}, 0, 1)
	lookAtDepths(t, "itself as a Member", [][]int{{1, 1, 1, 0}, {}}, 0, 1)
	lookAtDepths(t, "itself Repeated", [][]int{{1, 0}, {}}, 0, 1)
	lookAtDepths(t, "a ring that is led out of", [][]int{{1}, {0, 2}, {3}, {}}, 0, 0, 2, 1)
	lookAt(t, "M", depths(em(), 1), answer{})
	lookAt(t, "E", depths(em(), 0), answer{e: api.ErrArg})
	lookAt(t, "M.N without messages", depths(many(), 2), answer{number: 1})
	enums := tableOf(plainEnum("E"), messageOf("M", api.FieldType{Name: "e", Number: 1, Kind: api.Enum}, api.FieldType{Name: "m", Number: 2, Kind: api.Enum, Label: api.Map, Key: api.Bool}))
	lookAt(t, "a message of enums", depths(enums, 1), answer{number: 1})
	within := tableOf(messageOf("M"), messageOf("M.N"), messageOf("M.N.O"))
	lookAt(t, "types within it that it does not hold", depths(within, 0), answer{number: 1})
}

// TestP7_4Longest has chains and rings of MaxTypes messages.
func TestP7_4Longest(t *testing.T) {
	var forth, back [][]int
	var down, up []int
	for i := range api.MaxTypes {
		forth, back = append(forth, []int{i + 1}), append(back, []int{i - 1})
		down, up = append(down, api.MaxTypes-i), append(up, i+1)
	}
	forth[api.MaxTypes-1], back[0] = nil, nil
	lookAtDepths(t, "forth", forth, down...)
	lookAtDepths(t, "back", back, up...)
	forth[api.MaxTypes-1] = []int{0}
	lookAtDepths(t, "a ring of all", forth, make([]int, api.MaxTypes)...)
	forth[api.MaxTypes-1] = []int{api.MaxTypes - 1}
	lookAtDepths(t, "into the last one", forth, make([]int, api.MaxTypes)...)
	all := func(i int) []int { // each holds all behind it, so that there are very many ways
		var out []int
		for ref := i + 1; ref < api.MaxTypes; ref++ {
			out = append(out, ref)
		}
		return out
	}
	for i := range forth {
		forth[i] = all(i)[:min(api.MaxFields-2, api.MaxTypes-1-i)]
	}
	lookAtDepths(t, "very many ways", forth, down...)
}

// deepest is told message by message, each type asked with those around it at hand.
func deepest(x api.Table, index int, around []int) int {
	for _, i := range around {
		if i == index {
			return 0
		}
	}
	most := 1
	for _, f := range x.Types[index].Fields {
		if f.Kind != api.Message {
			continue
		}
		below := deepest(x, f.Ref, append(around, index))
		if below == 0 {
			return 0
		}
		most = max(most, below+1)
	}
	return most
}

func TestP7_4Chance(t *testing.T) {
	chance := rand.New(rand.NewSource(74))
	counts := map[int]int{}
	for range 3000 {
		var x api.Table
		count := 1 + chance.Intn(8)
		for i := range count {
			var refs []int
			for range chance.Intn(3) {
				refs = append(refs, chance.Intn(count))
			}
			if chance.Intn(3) > 0 {
				for at, ref := range refs {
					refs[at] = min(count-1, max(ref, i+1))
					if i == count-1 && chance.Intn(4) > 0 {
						refs = nil
						break
					}
				}
			}
			x.Types = append(x.Types, holds(fmt.Sprint("M", i), refs...))
		}
		for i := range x.Types {
			want := deepest(x, i, nil)
			counts[want]++
			if got, e := table.Depths(x, i); got != want || e != api.OK {
				t.Errorf("Depths(%+v, %d): %d, error %d, want %d", x, i, got, e, want)
			}
		}
	}
	for depth := range 6 {
		if counts[depth] < 20 {
			t.Errorf("too few of a depth: %v", counts)
		}
	}
}
