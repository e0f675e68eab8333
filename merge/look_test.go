package merge_test

import (
	"fmt"
	"slices"
	"strings"
	"testing"

	"cartouche/api"
	"cartouche/merge"
	"cartouche/model"
	"cartouche/samples"
)

var (
	em, wide, single       = samples.Small, samples.Wide, samples.Single
	num, str, in, values   = samples.Num, samples.Str, samples.In, samples.Values
	msg, field, pairs      = samples.Msg, samples.Field, samples.Pairs
	unknown, chunk, varint = samples.Unknown, samples.Chunk, samples.Varint
	told, shortly          = samples.Told, samples.Shortly
)

// In the tables that single tells.
const (
	around = samples.Around
	number = samples.Number
)

// with tells a message with entries that are not known.
func with(m api.Msg, l ...api.Entry) api.Msg { return api.Msg{Fields: m.Fields, Unknown: l} }

func lookAtMerge(t *testing.T, x api.Table, index int, a, b, want api.Msg) {
	t.Helper()
	got, e := merge.Merge(x, index, a, b)
	if e != api.OK || told(got) != told(want) {
		t.Errorf("Merge(%s; %s): %s, error %d; want %s", shortly(a), shortly(b), shortly(got), e, shortly(want))
	}
	if ok, _ := model.Typed(x, index, got); !ok {
		t.Errorf("Merge(%s; %s): %s is not typed", shortly(a), shortly(b), shortly(got))
	}
}

// lookAtMask sees what a mask keeps and drops, also with its paths the other way round, and with each one twice.
func lookAtMask(t *testing.T, x api.Table, index int, m api.Msg, mask []string, kept, left api.Msg) {
	t.Helper()
	turned := slices.Clone(mask)
	slices.Reverse(turned)
	for _, l := range [][]string{mask, turned, slices.Concat(turned, mask)} {
		if got, e := merge.Keep(x, index, m, l); e != api.OK || told(got) != told(kept) {
			t.Errorf("Keep(%s; %.200q): %s, error %d; want %s", shortly(m), l, shortly(got), e, shortly(kept))
		}
		if got, e := merge.Drop(x, index, m, l); e != api.OK || told(got) != told(left) {
			t.Errorf("Drop(%s; %.200q): %s, error %d; want %s", shortly(m), l, shortly(got), e, shortly(left))
		}
	}
}

// lookAtValue sees what Value tells: a field, or that error.
func lookAtValue(t *testing.T, x api.Table, index int, m api.Msg, path string, want api.Field, wantE api.Errno) {
	t.Helper()
	got, e := merge.Value(x, index, m, path)
	if e != wantE || told(msg(got)) != told(msg(want)) {
		t.Errorf("Value(%s, %.200q): %s, error %d; want %s, error %d", shortly(m), path, shortly(msg(got)), e, shortly(msg(want)), wantE)
	}
}

func lookAtPaths(t *testing.T, x api.Table, index int, m api.Msg, want ...string) {
	t.Helper()
	got, e := merge.Paths(x, index, m)
	if e != api.OK || strings.Join(got, " ") != strings.Join(want, " ") || len(got) != len(want) {
		t.Errorf("Paths(%s): %.200q, error %d; want %.200q", shortly(m), got, e, want)
	}
}

// answers are what all calls tell of the same arguments.
type answers struct {
	merged, kept, left          api.Msg
	byDefault                   api.Val
	value                       api.Field
	paths                       []string
	ofMerge, ofKeep, ofDrop     api.Errno
	ofDefault, ofValue, ofPaths api.Errno
}

// ask asks each call: Value of the first path of the mask.
func ask(x api.Table, index int, a, b api.Msg, number int, mask []string) (out answers) {
	path := ""
	if len(mask) > 0 {
		path = mask[0]
	}
	out.merged, out.ofMerge = merge.Merge(x, index, a, b)
	out.byDefault, out.ofDefault = merge.Default(x, index, number)
	out.value, out.ofValue = merge.Value(x, index, a, path)
	out.kept, out.ofKeep = merge.Keep(x, index, a, mask)
	out.left, out.ofDrop = merge.Drop(x, index, a, mask)
	out.paths, out.ofPaths = merge.Paths(x, index, a)
	return out
}

// errors are in the order of the chapter's list of calls.
func (l answers) errors() [6]api.Errno {
	return [...]api.Errno{l.ofMerge, l.ofDefault, l.ofValue, l.ofKeep, l.ofDrop, l.ofPaths}
}

func (l answers) told() string {
	return fmt.Sprint(told(l.merged), told(msg(field(0, l.byDefault))), told(msg(l.value)), told(l.kept), told(l.left), fmt.Sprintf("%q", l.paths), l.errors())
}

// lookAtZero sees that beside an error nothing is told.
func (l answers) lookAtZero(t *testing.T) {
	t.Helper()
	zero := api.Field{}
	isZero := [...]bool{told(l.merged) == "{}", told(msg(field(0, l.byDefault))) == told(msg(field(0, api.Val{}))), told(msg(l.value)) == told(msg(zero)), told(l.kept) == "{}", told(l.left) == "{}", len(l.paths) == 0}
	for i, e := range l.errors() {
		if e != api.OK && !isZero[i] {
			t.Errorf("call %d: more than error %d is told: %s", i, e, l.told())
		}
	}
}

// refused sees which errors the calls answer, in the order of the chapter's list, and that nothing is told beside them.
func refused(t *testing.T, what string, x api.Table, index int, a, b api.Msg, number int, mask []string, want [6]api.Errno) {
	t.Helper()
	l := ask(x, index, a, b, number, mask)
	if l.errors() != want {
		t.Errorf("%s: errors %d of Merge, Default, Value, Keep, Drop, Paths; want %d", what, l.errors(), want)
	}
	l.lookAtZero(t)
}
