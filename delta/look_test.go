package delta_test

import (
	"bytes"
	"fmt"
	"slices"
	"strings"
	"testing"

	"cartouche/api"
	"cartouche/delta"
	"cartouche/samples"
)

var (
	em, wide               = samples.Small, samples.Wide
	num, str, in           = samples.Num, samples.Str, samples.In
	msg, field, pairs      = samples.Msg, samples.Field, samples.Pairs
	unknown, chunk, varint = samples.Unknown, samples.Chunk, samples.Varint
	nested                 = samples.Nested
	told, shortly          = samples.Told, samples.Shortly
	all, tag, framed       = samples.Join, samples.Tag, samples.Framed
)

// In the tables that samples.Single tells.
const (
	around = samples.Around
	number = samples.Number
)

func put(f api.Field, path ...int) delta.Step { return delta.Step{Do: delta.Put, Path: path, F: f} }

func take(n int, path ...int) delta.Step {
	return delta.Step{Do: delta.Take, Path: path, F: api.Field{Number: n}}
}

func keep(l []api.Entry, path ...int) delta.Step {
	return delta.Step{Do: delta.Keep, Path: path, E: l}
}

// with tells a message with entries that are not known.
func with(m api.Msg, l ...api.Entry) api.Msg { return api.Msg{Fields: m.Fields, Unknown: l} }

// goesOn tells whether a path goes on through a field.
func goesOn(f api.FieldType) bool { return f.Label == api.Optional && f.Kind == api.Message }

// eachSingle does something with each table that samples.Single tells, its field, and what makes such a field of one value: of a map, by its first key.
func eachSingle(do func(x api.Table, f api.FieldType, of func(api.Val) api.Field)) {
	for _, x := range samples.Singles() {
		f := x.Types[around].Fields[0]
		do(x, f, func(v api.Val) api.Field {
			if f.Label == api.Map {
				return pairs(number, samples.Rising(f.Key)[0], v)
			}
			return field(number, v)
		})
	}
}

// parts tells, as a message, what a step has beside its path.
func parts(s delta.Step) api.Msg { return api.Msg{Fields: []api.Field{s.F}, Unknown: s.E} }

// toldSteps tells all of some steps; nil and empty lists are told as one.
func toldSteps(l []delta.Step) string {
	var out []string
	for _, s := range l {
		out = append(out, fmt.Sprint(s.Do, " at ", s.Path, ": ", told(parts(s))))
	}
	return strings.Join(out, ", ")
}

// brief tells the beginning of what may be long.
func brief(s string) string { return s[:min(len(s), 1000)] }

// lookAtDiff sees the steps from one message to another, and that they turn it into that.
func lookAtDiff(t *testing.T, x api.Table, index int, a, b api.Msg, want ...delta.Step) {
	t.Helper()
	if l, e := delta.Diff(x, index, a, b); e != api.OK || toldSteps(l) != toldSteps(want) {
		t.Errorf("Diff(%s; %s): %s, error %d; want %s", shortly(a), shortly(b), brief(toldSteps(l)), e, brief(toldSteps(want)))
	}
	lookAtApplied(t, x, index, a, b, want...)
}

// lookAtApplied sees what comes of a message by some steps.
func lookAtApplied(t *testing.T, x api.Table, index int, a, want api.Msg, l ...delta.Step) {
	t.Helper()
	if got, e := delta.Apply(x, index, a, l); e != api.OK || told(got) != told(want) {
		t.Errorf("Apply(%s; %s): %s, error %d; want %s", shortly(a), brief(toldSteps(l)), shortly(got), e, shortly(want))
	}
}

// lookAtRefused sees that steps are not done, and why: also where others stand ahead that change nothing, and wrong ones behind.
func lookAtRefused(t *testing.T, x api.Table, index int, a api.Msg, want api.Errno, l ...delta.Step) {
	t.Helper()
	for _, steps := range [][]delta.Step{l, append([]delta.Step{keep(a.Unknown)}, l...)} {
		if got, e := delta.Apply(x, index, a, steps); e != want || told(got) != "{}" {
			t.Errorf("Apply(%s; %s): %s, error %d; want error %d", shortly(a), brief(toldSteps(steps)), shortly(got), e, want)
		}
	}
}

// lookAtBytes sees which bytes steps are, and that they are read from them again.
func lookAtBytes(t *testing.T, x api.Table, index int, want []byte, l ...delta.Step) {
	t.Helper()
	if b, e := delta.Bytes(x, index, l); e != api.OK || !bytes.Equal(b, want) {
		t.Errorf("Bytes(%s): % .400d, error %d; want % .400d", brief(toldSteps(l)), b, e, want)
	}
	lookAtRead(t, x, index, want, l...)
}

// lookAtRead sees which steps bytes are.
func lookAtRead(t *testing.T, x api.Table, index int, b []byte, want ...delta.Step) {
	t.Helper()
	if l, e := delta.Read(x, index, b); e != api.OK || toldSteps(l) != toldSteps(want) {
		t.Errorf("Read(% .400d): %s, error %d; want %s", b, brief(toldSteps(l)), e, brief(toldSteps(want)))
	}
}

// lookAtUnwritten sees that steps have no bytes, and why: also where good ones stand ahead, and wrong ones behind.
func lookAtUnwritten(t *testing.T, x api.Table, index int, want api.Errno, l ...delta.Step) {
	t.Helper()
	wrong := []delta.Step{{}, take(1, 77), put(field(77)), take(0), keep([]api.Entry{{}})}
	for _, steps := range [][]delta.Step{l, append([]delta.Step{take(1), keep(nil)}, l...), append(slices.Clone(l), wrong...)} {
		if b, e := delta.Bytes(x, index, steps); e != want || len(b) > 0 {
			t.Errorf("Bytes(%s): % .400d, error %d; want error %d", brief(toldSteps(steps)), b, e, want)
		}
	}
}

// lookAtUnread sees that bytes are those of no steps: by themselves, and among some that are.
func lookAtUnread(t *testing.T, x api.Table, index int, b []byte) {
	t.Helper()
	good := []byte{18, 4, 10, 0, 24, 1}
	for _, l := range [][]byte{b, all(good, b), all(b, good), all(good, b, good)} {
		if got, e := delta.Read(x, index, l); e != api.ErrSyntax || len(got) > 0 {
			t.Errorf("Read(% .400d): %s, error %d; want error %d", l, brief(toldSteps(got)), e, api.ErrSyntax)
		}
	}
}

// given is what is handed in to all calls.
type given struct {
	x     api.Table
	index int
	a, b  api.Msg
	steps []delta.Step
	raw   []byte
}

// answers are what all calls tell of it.
type answers struct {
	diff, read                       []delta.Step
	applied                          api.Msg
	bytes                            []byte
	ofDiff, ofApply, ofBytes, ofRead api.Errno
}

func (g given) ask() (out answers) {
	out.diff, out.ofDiff = delta.Diff(g.x, g.index, g.a, g.b)
	out.applied, out.ofApply = delta.Apply(g.x, g.index, g.a, g.steps)
	out.bytes, out.ofBytes = delta.Bytes(g.x, g.index, g.steps)
	out.read, out.ofRead = delta.Read(g.x, g.index, g.raw)
	return out
}

// errors are in the order of the chapter's list of calls.
func (l answers) errors() [4]api.Errno {
	return [...]api.Errno{l.ofDiff, l.ofApply, l.ofBytes, l.ofRead}
}

func (l answers) told() string {
	return fmt.Sprintf("%s; %s; %d; %s; %d", toldSteps(l.diff), told(l.applied), l.bytes, toldSteps(l.read), l.errors())
}

// lookAtZero sees that beside an error nothing is told.
func (l answers) lookAtZero(t *testing.T) {
	t.Helper()
	isZero := [...]bool{len(l.diff) == 0, told(l.applied) == "{}", len(l.bytes) == 0, len(l.read) == 0}
	for i, e := range l.errors() {
		if e != api.OK && !isZero[i] {
			t.Errorf("call %d: more than error %d is told: %s", i, e, brief(l.told()))
		}
	}
}

// refused sees which errors the calls answer, and that nothing is told beside them.
func refused(t *testing.T, what string, g given, want ...api.Errno) {
	t.Helper()
	l := g.ask()
	if got := l.errors(); !slices.Equal(got[:], want) {
		t.Errorf("%s: errors %d of Diff, Apply, Bytes, Read; want %d", what, got, want)
	}
	l.lookAtZero(t)
}
