package pass_test

import (
	"fmt"
	"slices"
	"testing"

	"cartouche/api"
	"cartouche/check"
	"cartouche/pass"
	"cartouche/samples"
	"cartouche/text"
)

var (
	em, wide               = samples.Small, samples.Wide
	num, str, in           = samples.Num, samples.Str, samples.In
	msg, field             = samples.Msg, samples.Field
	unknown, chunk, varint = samples.Unknown, samples.Chunk, samples.Varint
	nested                 = samples.Nested
	told, shortly          = samples.Told, samples.Shortly
)

// en is chapter 18's table with N, whose Name is M.
func en() api.Table {
	x := em()
	x.Types[1].Fields = append(x.Types[1].Fields, api.FieldType{Name: "s", Number: 4, Kind: api.String})
	return x
}

// with tells a message with entries that are not known.
func with(m api.Msg, l ...api.Entry) api.Msg { return api.Msg{Fields: m.Fields, Unknown: l} }

// brief tells the beginning of what may be long.
func brief(x any) string {
	s := fmt.Sprintf("%+v", x)
	return s[:min(len(s), 1000)]
}

// described tells the table of a file.
func described(t *testing.T, file string) api.Table {
	t.Helper()
	x, fault := check.Compile([]api.Source{{Name: "a", Text: file}})
	if fault.Code != api.OK {
		t.Fatalf("%s: fault %v", file, fault)
	}
	return x
}

// place tells where a type stands; below 0, if it does not.
func place(x api.Table, name string) int {
	return slices.IndexFunc(x.Types, func(y api.Type) bool { return y.Name == name })
}

// said tells the message that a text says, by the type M.
func said(t *testing.T, x api.Table, s string) api.Msg {
	t.Helper()
	m, fault := text.Parse(x, place(x, "M"), s)
	if fault.Code != api.OK {
		t.Fatalf("%s: fault %v", s, fault)
	}
	return m
}

// answer tells a message of the type M as a text, or an error.
func answer(t *testing.T, x api.Table, m api.Msg, e api.Errno) string {
	t.Helper()
	if e != api.OK {
		if told(m) != "{}" {
			t.Errorf("beside error %d: %s", e, shortly(m))
		}
		return e.Error()
	}
	s, e := text.Print(x, place(x, "M"), m)
	if e != api.OK {
		t.Errorf("%s: error %d", shortly(m), e)
	}
	return s
}

// lookAtWay sees what becomes of a message of the type M on its way to another table and back, and whether it survives: not where there is an error.
func lookAtWay(t *testing.T, from, to api.Table, m api.Msg, wantAcross, wantThrough string) {
	t.Helper()
	there, e := pass.Across(from, to, "M", m)
	if got := answer(t, to, there, e); got != wantAcross {
		t.Errorf("Across(%s): %s; want %s", shortly(m), got, wantAcross)
	}
	back, e := pass.Through(from, to, "M", m)
	if got := answer(t, from, back, e); got != wantThrough {
		t.Errorf("Through(%s): %s; want %s", shortly(m), got, wantThrough)
	}
	want := e == api.OK && told(back) == told(m)
	if got, e := pass.Survives(from, to, "M", m); got != want || e != api.OK {
		t.Errorf("Survives(%s): %v, error %d; want %v", shortly(m), got, e, want)
	}
}

// survives sees that a message comes back as it was, and tells what it is on the other side.
func survives(t *testing.T, from, by api.Table, name string, m api.Msg) api.Msg {
	t.Helper()
	there, e := pass.Across(from, by, name, m)
	back, e2 := pass.Through(from, by, name, m)
	if e != api.OK || e2 != api.OK || told(back) != told(m) {
		t.Errorf("%s through %s, error %d: %s, error %d\n%s\nby %s", shortly(m), shortly(there), e, shortly(back), e2, brief(from), brief(by))
	}
	if ok, e := pass.Survives(from, by, name, m); !ok || e != api.OK {
		t.Errorf("Survives(%s): %v, error %d\n%s\nby %s", shortly(m), ok, e, brief(from), brief(by))
	}
	return there
}

func lookAtClash(t *testing.T, old, new api.Table, m api.Msg, want bool) {
	t.Helper()
	if got, e := pass.Clash(old, new, "M", m); got != want || e != api.OK {
		t.Errorf("Clash(%s): %v, error %d; want %v", shortly(m), got, e, want)
	}
}

// answers are what all calls tell of the same arguments.
type answers struct {
	across, through              api.Msg
	clash, survives              bool
	ofAcross, ofThrough, ofClash api.Errno
	ofSurvives                   api.Errno
}

func ask(first, second api.Table, name string, m api.Msg) (out answers) {
	out.across, out.ofAcross = pass.Across(first, second, name, m)
	out.through, out.ofThrough = pass.Through(first, second, name, m)
	out.clash, out.ofClash = pass.Clash(first, second, name, m)
	out.survives, out.ofSurvives = pass.Survives(first, second, name, m)
	return out
}

// errors are in the order of the chapter's list of calls.
func (l answers) errors() [4]api.Errno {
	return [...]api.Errno{l.ofAcross, l.ofThrough, l.ofClash, l.ofSurvives}
}

func (l answers) told() string {
	return fmt.Sprint(told(l.across), told(l.through), l.clash, l.survives, fmt.Sprintf("%d", l.errors()))
}

// lookAtZero sees that beside an error nothing is told.
func (l answers) lookAtZero(t *testing.T) {
	t.Helper()
	isZero := [...]bool{told(l.across) == "{}", told(l.through) == "{}", !l.clash, !l.survives}
	for i, e := range l.errors() {
		if e != api.OK && !isZero[i] {
			t.Errorf("call %d: more than error %d is told: %s", i, e, brief(l.told()))
		}
	}
}

// refused sees that all calls answer that error, and nothing beside.
func refused(t *testing.T, what string, first, second api.Table, name string, m api.Msg, want api.Errno) {
	t.Helper()
	l := ask(first, second, name, m)
	if l.errors() != [...]api.Errno{want, want, want, want} {
		t.Errorf("%s: errors %d of Across, Through, Clash, Survives; want %d", what, l.errors(), want)
	}
	l.lookAtZero(t)
}
