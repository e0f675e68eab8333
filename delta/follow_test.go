package delta_test

import (
	"slices"
	"testing"

	"cartouche/api"
	"cartouche/delta"
	"cartouche/interp"
	"cartouche/model"
	"cartouche/samples"
)

// lookAtFollow sees, of two typed messages, that the steps turn the one into the other, that there are none just if they are the same, and that steps that have bytes are read from them.
func lookAtFollow(t *testing.T, x api.Table, index int, a, b api.Msg) (back bool) {
	t.Helper()
	l, e := delta.Diff(x, index, a, b)
	if e != api.OK || (len(l) == 0) != model.Equal(a, b) {
		t.Errorf("Diff(%s; %s): %s, error %d", shortly(a), shortly(b), brief(toldSteps(l)), e)
	}
	lookAtApplied(t, x, index, a, b, l...)
	raw, e := delta.Bytes(x, index, l)
	if e == api.OK {
		lookAtRead(t, x, index, raw, l...)
	}
	return e == api.OK
}

// TestP21_4Chance has many messages: any typed ones, and normal ones, whose steps have bytes each time.
func TestP21_4Chance(t *testing.T) {
	m := samples.New(2131)
	var same, back int
	for range 2000 {
		x, index := m.Sample()
		a, b := twoMessages(m, x, index)
		lookAtFollow(t, x, index, a, b)
		lookAtFollow(t, x, index, b, a)
		lookAtFollow(t, x, index, a, a)
		a, _ = model.Settle(x, index, a)
		b, _ = model.Settle(x, index, b)
		if !lookAtFollow(t, x, index, a, b) || !lookAtFollow(t, x, index, msg(), b) || !lookAtFollow(t, x, index, a, msg()) {
			t.Errorf("%s and %s are normal, and have no bytes", told(a), told(b))
		}
		if model.Equal(a, b) {
			same++
		} else {
			back++
		}
	}
	if same < 250 || back < 1000 {
		t.Errorf("%d are the same, %d are not", same, back)
	}
}

// TestP21_4Singles has a field of each kind and label with each two of its values.
func TestP21_4Singles(t *testing.T) {
	eachSingle(func(x api.Table, f api.FieldType, of func(api.Val) api.Field) {
		good, _ := samples.Values(f.Kind)
		for i, v := range good {
			for j, w := range good {
				if lookAtFollow(t, x, around, msg(of(v)), msg(of(w))) != (j > 0 || i == j || f.Label != api.Plain) {
					t.Errorf("%+v: bytes of the steps from value %d to %d", f, i, j)
				}
			}
			lookAtFollow(t, x, around, msg(), msg(of(v)))
			lookAtFollow(t, x, around, msg(of(v)), msg())
		}
	})
}

// TestP21_4OneChange has messages with one thing changed: if they are typed still, the steps find it.
func TestP21_4OneChange(t *testing.T) {
	m := samples.New(2132)
	typed := 0
	for range 8000 {
		x, index := m.Sample()
		a := m.Message(x, index, 3)
		b := m.Changed(a)
		if isTyped(x, index, b) {
			lookAtFollow(t, x, index, a, b)
			typed++
		}
	}
	if typed < 1000 {
		t.Errorf("%d typed ones", typed)
	}
}

// TestP21_4Steps has steps in a row: those of a to b, and of b to c, are those of a to c in what comes of them; so are their bytes, one behind the other.
func TestP21_4Steps(t *testing.T) {
	m := samples.New(2133)
	for range 1000 {
		x, index := m.Sample()
		a, b := twoMessages(m, x, index)
		c := mixed(m, x, index, b, a)
		for _, own := range []*api.Msg{&a, &b, &c} {
			*own, _ = model.Settle(x, index, *own)
		}
		one, _ := delta.Diff(x, index, a, b)
		two, _ := delta.Diff(x, index, b, c)
		lookAtApplied(t, x, index, a, c, slices.Concat(one, two)...)
		first, _ := delta.Bytes(x, index, one)
		second, _ := delta.Bytes(x, index, two)
		lookAtBytes(t, x, index, all(first, second), slices.Concat(one, two)...)
	}
}

// TestP21_4Read has messages that were read from bytes.
func TestP21_4Read(t *testing.T) {
	m := samples.New(2134)
	for range 2000 {
		x, index := m.Sample()
		a, e := interp.Decode(x, index, m.Bytes(x, index, 3))
		b, e2 := interp.Decode(x, index, m.Bytes(x, index, 3))
		if e == api.OK && e2 == api.OK {
			lookAtFollow(t, x, index, a, b)
		}
	}
}
