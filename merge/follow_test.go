package merge_test

import (
	"slices"
	"testing"

	"cartouche/api"
	"cartouche/interp"
	"cartouche/merge"
	"cartouche/model"
	"cartouche/samples"
)

// must tells a message that must be told without an error.
func must(t *testing.T, m api.Msg, e api.Errno) api.Msg {
	t.Helper()
	if e != api.OK {
		t.Errorf("error %d", e)
	}
	return m
}

func mergeOf(t *testing.T, x api.Table, index int, a, b api.Msg) api.Msg {
	t.Helper()
	m, e := merge.Merge(x, index, a, b)
	return must(t, m, e)
}

func keepOf(t *testing.T, x api.Table, index int, a api.Msg, mask []string) api.Msg {
	t.Helper()
	m, e := merge.Keep(x, index, a, mask)
	return must(t, m, e)
}

func dropOf(t *testing.T, x api.Table, index int, a api.Msg, mask []string) api.Msg {
	t.Helper()
	m, e := merge.Drop(x, index, a, mask)
	return must(t, m, e)
}

// TestP10_4Merge: merging with the empty message changes nothing; merging goes in any bracketing.
func TestP10_4Merge(t *testing.T) {
	m := samples.New(104)
	for range 2500 {
		x, index := m.Sample()
		a, b, c := m.Message(x, index, 3), m.Message(x, index, 3), m.Message(x, index, 3)
		lookAtMerge(t, x, index, a, msg(), a)
		lookAtMerge(t, x, index, msg(), a, a)
		ab, bc := mergeOf(t, x, index, a, b), mergeOf(t, x, index, b, c)
		one, two := mergeOf(t, x, index, ab, c), mergeOf(t, x, index, a, bc)
		if !model.Equal(one, two) {
			t.Errorf("%s, %s, %s: %s and %s", told(a), told(b), told(c), told(one), told(two))
		}
	}
}

// TestT4: bytes one behind the other are read as the merge of both.
func TestT4(t *testing.T) {
	m := samples.New(105)
	reads := 0
	for range 6000 {
		x, index := m.Sample()
		a, b := m.Bytes(x, index, 4), m.Bytes(x, index, 4)
		if m.Below(5) == 0 {
			a = m.Bent(a)
		}
		first, e1 := interp.Decode(x, index, a)
		second, e2 := interp.Decode(x, index, b)
		if e1 != api.OK || e2 != api.OK {
			continue
		}
		reads++
		both, e := interp.Decode(x, index, slices.Concat(a, b))
		if want := mergeOf(t, x, index, first, second); e != api.OK || !model.Equal(both, want) {
			t.Errorf("% d and % d: %s, error %d; want %s", a, b, told(both), e, told(want))
		}
	}
	if reads < 3500 {
		t.Errorf("%d times both were read", reads)
	}
}

// TestT4Full has bytes that are as many as can be, all in a, all in b, and in both.
func TestT4Full(t *testing.T) {
	b := make([]byte, 0, api.MaxMessage)
	for i := 0; len(b) < api.MaxMessage; i++ {
		b = append(b, slices.Concat([]byte{8, byte(i % 128)}, []byte{18, 2, 1, byte(i % 100)}, []byte{26, 4, 16, 7, 40, 1}, []byte{40, byte(i % 3), 32, 1})...)
	}
	for _, cut := range []int{0, 16, 32768, api.MaxMessage - 16, api.MaxMessage} {
		first, e1 := interp.Decode(em(), 1, b[:cut])
		second, e2 := interp.Decode(em(), 1, b[cut:])
		both, e := interp.Decode(em(), 1, b)
		if e1 != api.OK || e2 != api.OK || e != api.OK || !model.Equal(both, mergeOf(t, em(), 1, first, second)) {
			t.Errorf("cut at %d: errors %d, %d, %d", cut, e1, e2, e)
		}
	}
}

// bareAgain tells a message without what is not known, there and in messages with fields that stand within it by an Optional field.
func bareAgain(x api.Table, index int, m api.Msg) api.Msg {
	var out api.Msg
	for _, own := range m.Fields {
		i := slices.IndexFunc(x.Types[index].Fields, func(f api.FieldType) bool { return f.Number == own.Number })
		f := x.Types[index].Fields[i]
		if goesOn(f) && len(own.Vals[0].M[0].Fields) > 0 {
			own = field(own.Number, in(bareAgain(x, f.Ref, own.Vals[0].M[0])))
		}
		out.Fields = append(out.Fields, own)
	}
	return out
}

// TestP10_4Masks: Keep of Paths is the message without what is not known on the way; Drop of all names leaves what is not known; of one mask the merge of Drop and Keep is the message.
func TestP10_4Masks(t *testing.T) {
	m := samples.New(106)
	for range 2500 {
		x, index := m.Sample()
		a := m.Message(x, index, 4)
		paths, e := merge.Paths(x, index, a)
		kept := keepOf(t, x, index, a, paths)
		if want := bareAgain(x, index, a); e != api.OK || !model.Equal(kept, want) {
			t.Errorf("%s: Keep of Paths is %s, want %s", told(a), told(kept), told(want))
		}
		var names []string
		for _, f := range x.Types[index].Fields {
			names = append(names, f.Name)
		}
		if left := dropOf(t, x, index, a, names); !model.Equal(left, unknown(a.Unknown...)) {
			t.Errorf("%s: Drop of all names leaves %s", told(a), told(left))
		}
		for _, mask := range [][]string{maskOf(m, x, index), paths, names, nil} {
			left, kept := dropOf(t, x, index, a, mask), keepOf(t, x, index, a, mask)
			if back := mergeOf(t, x, index, left, kept); !model.Equal(back, a) {
				t.Errorf("%s, mask %q: %s and %s are merged as %s", told(a), mask, told(left), told(kept), told(back))
			}
			for _, part := range []api.Msg{left, kept} {
				if ok, e := model.Typed(x, index, part); !ok || e != api.OK {
					t.Errorf("%s, mask %q: %s is not typed", told(a), mask, told(part))
				}
			}
		}
	}
}

// TestPathsAreThere: Value of each path that is told is a field, and each one is told once.
func TestPathsAreThere(t *testing.T) {
	m := samples.New(107)
	for range 1000 {
		x, index := m.Sample()
		a := m.Message(x, index, 4)
		paths, _ := merge.Paths(x, index, a)
		for i, path := range paths {
			if _, e := merge.Value(x, index, a, path); e != api.OK || slices.Index(paths, path) != i {
				t.Errorf("%s: %q has error %d", told(a), path, e)
			}
		}
	}
}
