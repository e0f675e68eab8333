package code_test

import (
	"bytes"
	"strings"
	"testing"

	"cartouche/api"
	"cartouche/check"
	"cartouche/code"
	"cartouche/plan"
	"cartouche/samples"
	"cartouche/self"
	"cartouche/vm"
)

// TestExamples has the chapter's.
func TestExamples(t *testing.T) {
	lookAtBytes(t, "none", plan.Program{}, []byte{67, 84, 0})
	lookAtNoBytes(t, "no count", []byte{67, 84})
	e := of(lowered(t, em()).Blocks[0])
	lookAtBytes(t, "E", e, []byte{67, 84, 1, 0, 0, 1, 0, 0})
	lookAtText(t, "E", e, "block 0\n  row 0 0\n")
	if s, _ := code.Text(lowered(t, em())); !strings.Contains(s, "\n  dec 1 case 8 5\n") {
		t.Errorf("M's text is %s", s)
	}
}

// written tells a valid program's bytes, its text and its sum; from both it is told again.
func written(t *testing.T, p plan.Program) (b []byte, s string, sum uint64) {
	t.Helper()
	b, e1 := code.Bytes(p)
	s, e2 := code.Text(p)
	sum, e3 := code.Sum(p)
	one, e4 := code.Read(b)
	two, e5 := code.Parse(s)
	for _, e := range []api.Errno{e1, e2, e3, e4, e5} {
		if e != api.OK {
			t.Errorf("%s: errors %d, %d, %d, %d, %d", brief(p), e1, e2, e3, e4, e5)
		}
	}
	for _, q := range []plan.Program{one, two} {
		if !plan.Valid(q) || !plan.Equal(q, p) || !same(q, p) {
			t.Errorf("%s is told again as %s", brief(p), brief(q))
		}
	}
	return b, s, sum
}

// TestP16_4Back: Read of Bytes, Parse of Text are the program.
func TestP16_4Back(t *testing.T) {
	m := samples.New(1641)
	for _, x := range append(samples.Singles(), api.Table{}, em(), wide(), full(), self.Meta()) {
		p := lowered(t, x)
		written(t, p)
		written(t, better(t, p))
	}
	for range 3000 {
		p := some(t, m)
		written(t, p)
		written(t, better(t, p))
	}
}

// TestP16_4One: two valid programs have one text just if they have the same bytes, just if they are Equal.
func TestP16_4One(t *testing.T) {
	m := samples.New(1642)
	equal, others := 0, 0
	for range 8000 {
		p := some(t, m)
		q := samples.Pick(m, samples.CopyProgram(p), samples.EmptiedProgram(p), m.BentProgram(p), m.BentProgram(p), m.BentProgram(m.BentProgram(p)), better(t, p), some(t, m))
		if !plan.Valid(q) {
			continue
		}
		b1, s1, sum1 := written(t, p)
		b2, s2, sum2 := written(t, q)
		want := plan.Equal(p, q)
		if bytes.Equal(b1, b2) != want || (s1 == s2) != want || want && sum1 != sum2 {
			t.Errorf("%s and %s: Equal is %v, bytes %s and %s, texts\n%s and\n%s, sums %d and %d", brief(p), brief(q), want, brief(b1), brief(b2), brief(s1), brief(s2), sum1, sum2)
		}
		if want {
			equal++
		} else {
			others++
		}
	}
	if equal < 1500 || others < 1500 {
		t.Errorf("%d are Equal, %d are not", equal, others)
	}
}

// lookAtItself has T6: what is compiled from a table, and from what its bytes say, is byte for byte the same.
func lookAtItself(t *testing.T, x api.Table) {
	t.Helper()
	packed, e := self.Pack(x)
	if e != api.OK {
		t.Fatalf("Pack(%s): error %d", brief(x), e)
	}
	y, e := self.Unpack(packed)
	if e != api.OK {
		t.Fatalf("Unpack of Pack(%s): error %d", brief(x), e)
	}
	p, q := lowered(t, x), lowered(t, y)
	for range 2 {
		b1, s1, sum1 := written(t, p)
		b2, s2, sum2 := written(t, q)
		if !bytes.Equal(b1, b2) || s1 != s2 || sum1 != sum2 {
			t.Errorf("%s: by what it says of itself %s, not %s", brief(x), brief(s2), brief(s1))
		}
		p, q = better(t, p), better(t, q)
	}
}

func TestT6(t *testing.T) {
	m := samples.New(1643)
	for _, x := range []api.Table{{}, em(), wide(), self.Meta()} {
		lookAtItself(t, x)
	}
	for range 1500 {
		lookAtItself(t, samples.Pick(m, m.Rich(), m.Table()))
	}
	x, f := check.Compile(samples.Files())
	if f.Code != api.OK {
		t.Fatalf("fault %v", f)
	}
	lookAtItself(t, x)
}

// TestP16_4Runs sees that a program that was read does what the one that was written does.
func TestP16_4Runs(t *testing.T) {
	m := samples.New(1644)
	for range 500 {
		x := m.Table()
		p := better(t, lowered(t, x))
		b, s, _ := written(t, p)
		one, _ := code.Read(b)
		two, _ := code.Parse(s)
		for range 5 {
			given := m.Bytes(x, 0, 3)
			want, e := vm.Decode(p, 0, given)
			for _, q := range []plan.Program{one, two} {
				if got, again := vm.Decode(q, 0, given); again != e || samples.Told(got) != samples.Told(want) {
					t.Errorf("%s of %v: error %d, want %s, error %d", samples.Shortly(got), given, again, samples.Shortly(want), e)
				}
			}
		}
	}
}
