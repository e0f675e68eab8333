package forge_test

import (
	"strings"
	"testing"

	"cartouche/api"
	"cartouche/check"
	"cartouche/forge"
	"cartouche/samples"
	"cartouche/self"
)

func one(text string) []api.Source { return []api.Source{{Name: "a", Text: text}} }

// TestP17_1New has bundles that are accepted: the forge holds the table that check tells, and none of its types is compiled.
func TestP17_1New(t *testing.T) {
	for _, l := range [][]api.Source{nil, {}, one(""), one("message M { int32 x = 1; }"), one("enum E { A = 0; } message M { E e = 2; repeated E l = 1; M m = 3; }"), samples.Files()} {
		want, fault := check.Compile(l)
		if fault.Code != api.OK {
			t.Fatalf("Compile(%v): %v", l, fault)
		}
		f, fault := forge.New(l)
		if fault != (api.Fault{}) || f == nil {
			t.Fatalf("New(%v): fault %v", l, fault)
		}
		if got := f.Table(); !sameTable(got, want) {
			t.Errorf("New(%v): %s, want %s", l, brief(got), brief(want))
		}
		lookAtCounts(t, "new", f, 0, 0)
		if got := f.Program(); !samePlan(got, better(t, want)) {
			t.Errorf("New(%v): the program is %s", l, brief(got))
		}
	}
}

// TestP17_1Refused has bundles with a fault of each sort: it is told, and there is no forge.
func TestP17_1Refused(t *testing.T) {
	rows := []struct {
		sources []api.Source
		want    api.Fault
	}{
		{make([]api.Source, api.MaxFiles+1), api.Fault{Code: api.ErrLimit}},
		{one(strings.Repeat(" ", api.MaxText+1)), api.Fault{Code: api.ErrTooBig}},
		{[]api.Source{{Name: "a"}, {Name: "a"}}, api.Fault{Code: api.ErrDup, File: 2}},
		{one("message"), api.Fault{Code: api.ErrSyntax, File: 1, Line: 1, Col: 8}},
		{one("\nimport \"b\";"), api.Fault{Code: api.ErrImport, File: 1, Line: 2, Col: 8}},
		{[]api.Source{{Name: "a", Text: `import "b";`}, {Name: "b", Text: `import "a";`}}, api.Fault{Code: api.ErrCycle, File: 1, Line: 1, Col: 8}},
		{one("message M { int32 x = 1; string x = 2; }"), api.Fault{Code: api.ErrDup, File: 1, Line: 1, Col: 33}},
		{one("message M { int32 x = 0; }"), api.Fault{Code: api.ErrRange, File: 1, Line: 1, Col: 23}},
		{one("message M { Foo f = 1; }"), api.Fault{Code: api.ErrName, File: 1, Line: 1, Col: 13}},
		{one("message M { reserved 5 to 9; Foo f = 5; }"), api.Fault{Code: api.ErrNumber, File: 1, Line: 1, Col: 38}},
		{one("message M { optional M m = 1; }"), api.Fault{Code: api.ErrOption, File: 1, Line: 1, Col: 13}},
		{one("enum E { }"), api.Fault{Code: api.ErrSymbol, File: 1, Line: 1, Col: 6}},
	}
	for _, r := range rows {
		if f, fault := forge.New(r.sources); f != nil || fault != r.want {
			t.Errorf("New(%s): %v, fault %v, want %v", brief(r.sources), f, fault, r.want)
		}
	}
}

// TestP17_1Of has good tables.
func TestP17_1Of(t *testing.T) {
	m := samples.New(1711)
	look := func(x api.Table) {
		t.Helper()
		f := of(t, x)
		if got := f.Table(); !sameTable(got, x) {
			t.Errorf("Of(%s): %s", brief(x), brief(got))
		}
		lookAtCounts(t, "new", f, 0, 0)
	}
	for _, x := range append(samples.Singles(), api.Table{}, em(), wide(), full(), self.Meta()) {
		look(x)
	}
	for range 500 {
		look(samples.Pick(m, m.Table, m.Rich)())
	}
}

// TestP17_1NotGood has tables that are not.
func TestP17_1NotGood(t *testing.T) {
	for _, w := range samples.WrongTables() {
		if f, e := forge.Of(w.Table); f != nil || e != api.ErrArg {
			t.Errorf("%s: %v, error %d", w.What, f, e)
		}
	}
}

// TestP17_1Apart sees that two forges of one table know nothing of each other.
func TestP17_1Apart(t *testing.T) {
	x := em()
	f, g := of(t, x), of(t, x)
	lookAtWarm(t, f, []int{1}, 1, 1, api.OK)
	lookAtCounts(t, "the other one", g, 0, 0)
	lookAtDecode(t, f, "M", nil, msg(), api.OK)
	lookAtCounts(t, "the other one", g, 0, 0)
	lookAtWarm(t, g, []int{0, 1}, 1, 2, api.OK)
	lookAtCounts(t, "the first one", f, 2, 1)
	lookAtCounts(t, "the other one", g, 2, 0)
}
