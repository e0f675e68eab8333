package model_test

import (
	"slices"
	"testing"

	"cartouche/api"
	"cartouche/model"
	"cartouche/samples"
)

// TestP8_4Settled: a normal message is typed; Settle tells a normal one, of a normal one it, and of what it told that; it makes nothing deeper.
func TestP8_4Settled(t *testing.T) {
	m := samples.New(84)
	for range 5000 {
		x := m.Table()
		a := m.Message(x, 0, 4)
		for range m.Below(2) {
			a = m.Changed(a)
		}
		isTyped, _ := model.Typed(x, 0, a)
		isNormal, _ := model.Normal(x, 0, a)
		if isNormal && !isTyped {
			t.Errorf("%s is normal and not typed", told(a))
		}
		once, e := model.Settle(x, 0, a)
		if (e == api.OK) != isTyped {
			t.Errorf("%s: typed %v, Settle tells error %d", told(a), isTyped, e)
		}
		if e != api.OK {
			continue
		}
		if ok, e := model.Normal(x, 0, once); !ok || e != api.OK {
			t.Errorf("Settle(%s): %s is not normal", told(a), told(once))
		}
		if isNormal != model.Equal(a, once) {
			t.Errorf("Settle(%s): %s; normal %v", told(a), told(once), isNormal)
		}
		twice, e := model.Settle(x, 0, once)
		if e != api.OK || !model.Equal(once, twice) {
			t.Errorf("Settle of Settle of %s: %s", told(a), told(twice))
		}
		if model.Depth(once) > model.Depth(a) || model.Depth(a) != wantedDepth(a) {
			t.Errorf("%s has the depth %d, settled %d", told(a), model.Depth(a), model.Depth(once))
		}
	}
}

func TestP8_4Equal(t *testing.T) {
	m := samples.New(85)
	for range 300 {
		x := m.Table()
		var l []api.Msg
		for range 3 {
			a := m.Message(x, 0, 2)
			l = append(l, a, model.Copy(a), emptied(a), m.Changed(a))
		}
		for _, a := range l {
			if !model.Equal(a, a) {
				t.Errorf("%s is not equal to itself", told(a))
			}
			for _, b := range l {
				if model.Equal(a, b) != model.Equal(b, a) {
					t.Errorf("%s and %s are equal one way", told(a), told(b))
				}
				for _, c := range l {
					if model.Equal(a, b) && model.Equal(b, c) && !model.Equal(a, c) {
						t.Errorf("%s, %s, %s are equal two by two alone", told(a), told(b), told(c))
					}
				}
			}
		}
	}
}

// TestP8_4Set: Get of what Set told is the field; Clear of it is as if it had been cleared ahead, but for other members.
func TestP8_4Set(t *testing.T) {
	m := samples.New(86)
	sets := 0
	for range 4000 {
		x := m.Table()
		a, b := m.Message(x, 0, 3), m.Message(x, 0, 3)
		for _, f := range b.Fields {
			got, e := model.Set(x, 0, a, f)
			if e != api.OK {
				t.Fatalf("Set(%s, %s): error %d", told(a), told(msg(f)), e)
			}
			sets++
			if back, ok := model.Get(got, f.Number); !ok || !model.Equal(msg(back), msg(f)) {
				t.Errorf("Get of Set(%s, %s): %s", told(a), told(msg(f)), told(msg(back)))
			}
			if ok, _ := model.Typed(x, 0, got); !ok {
				t.Errorf("Set(%s, %s): %s is not typed", told(a), told(msg(f)), told(got))
			}
			for _, o := range got.Fields {
				was, _ := model.Get(a, o.Number)
				if o.Number != f.Number && !model.Equal(msg(o), msg(was)) {
					t.Errorf("Set(%s, %s): %s has other fields", told(a), told(msg(f)), told(got))
				}
			}
			cleared := model.Clear(got, f.Number)
			if _, ok := model.Get(cleared, f.Number); ok || len(cleared.Fields) != len(got.Fields)-1 {
				t.Errorf("Clear of %s, %d: %s", told(got), f.Number, told(cleared))
			}
			again, _ := model.Set(x, 0, cleared, f)
			if !model.Equal(again, got) || !slices.IsSortedFunc(again.Fields, func(a, b api.Field) int { return a.Number - b.Number }) {
				t.Errorf("Set of Clear of %s: %s", told(got), told(again))
			}
		}
	}
	if sets < 5000 {
		t.Errorf("%d fields were set", sets)
	}
}
