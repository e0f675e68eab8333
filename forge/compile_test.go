package forge_test

import (
	"math"
	"slices"
	"testing"

	"cartouche/api"
	"cartouche/opt"
	"cartouche/plan"
	"cartouche/samples"
	"cartouche/self"
)

// TestExamples has the chapter's.
func TestExamples(t *testing.T) {
	f := of(t, em())
	lookAtCounts(t, "new", f, 0, 0)
	lookAtWarm(t, f, []int{1, 1, 0}, 4, 2, api.OK)
	lookAtWarm(t, f, []int{1}, 1, 0, api.OK)
	lookAtCounts(t, "warm", f, 2, 0)
	lookAtDecode(t, f, "M", []byte{8, 5}, msg(field(1, num(5))), api.OK)
	lookAtDecode(t, f, "E", nil, msg(), api.ErrNone)
	lookAtCounts(t, "read", f, 2, 1)
	lookAtAll(t, f, "M", [][]byte{{8, 1}, {8}}, 3, []answer{{M: msg(field(1, num(1)))}, {E: api.ErrEnd}}, api.OK)
	lookAtAll(t, f, "M", [][]byte{{8, 1}, {8}}, 0, nil, api.ErrArg)
}

// TestP17_2Block asks for each type alone: it, and no other, is compiled.
func TestP17_2Block(t *testing.T) {
	m := samples.New(1721)
	look := func(x api.Table) {
		t.Helper()
		for _, i := range numbers(x) {
			f := of(t, x)
			lowered, _ := plan.LowerType(x, i)
			for range 2 {
				if b, e := f.Block(i); e != api.OK || !sameBlock(b, opt.Block(lowered)) {
					t.Errorf("Block(%d) of %s: %s, error %d", i, brief(x), brief(b), e)
				}
				lookAtCounts(t, "one block", f, 1, 0)
			}
			lookAtWarm(t, f, []int{i}, 1, 0, api.OK)
			lookAtWarm(t, f, numbers(x), 2, len(x.Types)-1, api.OK)
		}
	}
	for _, x := range append(samples.Singles(), em(), wide(), self.Meta()) {
		look(x)
	}
	for range 300 {
		look(samples.Pick(m, m.Table, m.Rich)())
	}
}

// TestP17_2Small has the blocks of chapter 14, spelt out.
func TestP17_2Small(t *testing.T) {
	f := of(t, em())
	wants := []plan.Block{
		samples.Block("", "", "0 0"),
		samples.Block("Tag; Jump 10; ReadSet Int32 1; Go 0; ReadAdd Uint32 2; Go 0; Row 2 Uint32 0; Go 0; Msg 3 1 0; Go 0; Keep; Go 0",
			"Has 1 2 Int32; PutVal 8 Int32; Has 2 4 0; Run 18 Uint32; Has 3 7 0; Put 26; Sub 1; Rest; End", "8 2; 16 4; 18 6; 26 8"),
	}
	for i, want := range wants {
		if b, e := f.Block(i); e != api.OK || !sameBlock(b, want) {
			t.Errorf("Block(%d): %v, error %d, want %v", i, b, e, want)
		}
		lookAtCounts(t, "blocks one by one", f, i+1, 0)
	}
	if got := f.Program(); !samePlan(got, plan.Program{Blocks: wants}) {
		t.Errorf("Program is %v", got)
	}
}

// TestP17_2Enum sees that an enum's block is compiled as others are, its rows rising.
func TestP17_2Enum(t *testing.T) {
	f := of(t, wide())
	if b, e := f.Block(0); e != api.OK || !sameBlock(b, plan.Block{Rows: []plan.Line{{Tag: 0}, {Tag: 5}, {Tag: math.MaxInt32}}}) {
		t.Errorf("Block(0): %v, error %d", b, e)
	}
	lookAtCounts(t, "an enum", f, 1, 0)
}

// TestP17_2NoType has indices that are none: nothing is compiled.
func TestP17_2NoType(t *testing.T) {
	for _, x := range []api.Table{{}, em(), wide(), full()} {
		f := of(t, x)
		for _, i := range []int{len(x.Types), len(x.Types) + 1, -1, -2, math.MaxInt, math.MinInt, 1 << 32} {
			if b, e := f.Block(i); e != api.ErrArg || !isNoBlock(b) {
				t.Errorf("Block(%d) of %d types: %s, error %d", i, len(x.Types), brief(b), e)
			}
			for _, list := range [][]int{{i}, append(numbers(x), i), append([]int{i}, numbers(x)...)} {
				lookAtWarm(t, f, list, 1, 0, api.ErrArg)
				lookAtWarm(t, f, list, 64, 0, api.ErrArg)
			}
		}
		lookAtCounts(t, "all refused", f, 0, 0)
	}
}

// TestP17_2Workers has numbers of workers that may be, and others: of none of these anything is compiled.
func TestP17_2Workers(t *testing.T) {
	for _, workers := range []int{0, 65, -1, 66, math.MaxInt, math.MinInt, 1<<32 + 1} {
		f := of(t, em())
		for _, list := range [][]int{nil, {1}, {0, 1}, {2}} {
			lookAtWarm(t, f, list, workers, 0, api.ErrArg)
		}
		lookAtCounts(t, "all refused", f, 0, 0)
	}
	for workers := 1; workers <= 64; workers++ {
		f := of(t, wide())
		lookAtWarm(t, f, nil, workers, 0, api.OK)
		lookAtWarm(t, f, []int{}, workers, 0, api.OK)
		lookAtCounts(t, "none", f, 0, 0)
		lookAtWarm(t, f, []int{2}, workers, 1, api.OK)
		lookAtCounts(t, "one", f, 1, 0)
		lookAtWarm(t, f, []int{0, 2, 1, 0, 2}, workers, 2, api.OK)
		lookAtWarm(t, f, []int{0, 2, 1, 0, 2}, workers, 0, api.OK)
		lookAtCounts(t, "all", f, 3, 0)
	}
}

// TestP17_2Warm has numbers many times, by any number of workers: each is new once.
func TestP17_2Warm(t *testing.T) {
	m := samples.New(1722)
	x := full()
	x.Types = x.Types[:40]
	for range 15 {
		f := of(t, x)
		known := map[int]int{}
		for range 6 {
			var list []int
			for range m.Below(60) {
				list = append(list, m.Below(40))
			}
			before := len(known)
			for _, i := range list {
				known[i]++
			}
			lookAtWarm(t, f, list, 1+m.Below(64), len(known)-before, api.OK)
			lookAtCounts(t, "warm", f, len(known), 0)
		}
		if !samePlan(f.Program(), better(t, x)) {
			t.Error("another program")
		}
		lookAtCounts(t, "all", f, 40, 0)
	}
}

// TestP17_2Long has a list that is far longer than there are types.
func TestP17_2Long(t *testing.T) {
	f := of(t, wide())
	list := slices.Repeat([]int{2, 0}, 300000)
	lookAtWarm(t, f, append(slices.Clip(list), 3), 8, 0, api.ErrArg)
	lookAtWarm(t, f, list, 8, 2, api.OK)
	lookAtWarm(t, f, append(list, 1), 64, 1, api.OK)
}

// TestP17_2Program sees that all types are compiled by it, whichever were already.
func TestP17_2Program(t *testing.T) {
	m := samples.New(1723)
	look := func(x api.Table) {
		t.Helper()
		f, want := of(t, x), better(t, x)
		for i := range x.Types {
			if m.Below(3) == 0 {
				f.Block(i)
			}
		}
		for range 2 {
			if got := f.Program(); !plan.Equal(got, want) || !samePlan(got, want) || !plan.Valid(got) {
				t.Errorf("Program of %s: %s, want %s", brief(x), brief(got), brief(want))
			}
			lookAtCounts(t, "the program", f, len(x.Types), 0)
		}
		lookAtWarm(t, f, numbers(x), 3, 0, api.OK)
	}
	for _, x := range append(samples.Singles(), api.Table{}, em(), wide(), full(), self.Meta()) {
		look(x)
	}
	for range 500 {
		look(samples.Pick(m, m.Table, m.Rich)())
	}
}
