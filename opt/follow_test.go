package opt_test

import (
	"fmt"
	"slices"
	"testing"

	"cartouche/api"
	"cartouche/check"
	"cartouche/opt"
	"cartouche/plan"
	"cartouche/samples"
	"cartouche/self"
)

// reads tells what reading steps do, one thing after the other, when these tags come: two steps that are one do two things, and going elsewhere is none.
func reads(b plan.Block, tags []int) []string {
	var out []string
	at, tag := 0, 0
	for {
		s := b.Dec[at]
		at++
		switch s.Op {
		case plan.Tag:
			if len(tags) == 0 {
				return out
			}
			tag, tags = tags[0], tags[1:]
			out = append(out, "Tag")
		case plan.Case:
			if tag != s.A {
				at = s.B
			}
		case plan.Jump:
			at = s.A
			if i := slices.IndexFunc(b.Rows, func(r plan.Line) bool { return r.Tag == tag }); i >= 0 {
				at = b.Rows[i].To
			}
		case plan.Go:
			at = s.A
		case plan.ReadSet:
			out = append(out, does(plan.Read, s.A), does(plan.Set, s.B))
		case plan.ReadAdd:
			out = append(out, does(plan.Read, s.A), does(plan.Add, s.B))
		default:
			out = append(out, does(s.Op, s.A, s.B, s.C, s.D))
		}
	}
}

func does(op int, numbers ...int) string {
	return fmt.Sprint(nameOf(op), append(numbers, 0, 0, 0, 0)[:4])
}

// writes tells what writing steps do with a message of which is known which fields it has, and which of them have their default.
func writes(b plan.Block, has, isDefault map[int]bool) []string {
	var out []string
	for at := 0; ; {
		s := b.Enc[at]
		at++
		switch s.Op {
		case plan.End:
			return out
		case plan.Has:
			if has[s.A] { // it is the machine's field, wherever that goes
				out = append(out, fmt.Sprint("field ", s.A))
			}
			if !has[s.A] || s.C > 0 && isDefault[s.A] {
				at = s.B
			}
		case plan.PutVal:
			out = append(out, does(plan.Put, s.A), does(plan.Val, s.B))
		default:
			out = append(out, does(s.Op, s.A, s.B, s.C, s.D))
		}
	}
}

// tagsOf tells the tags that a block knows, and others.
func tagsOf(b plan.Block) []int {
	out := []int{8, 16, 24, 4294967293}
	for _, s := range b.Dec {
		if s.Op == plan.Case {
			out = append(out, s.A, s.A+1)
		}
	}
	for _, r := range b.Rows {
		out = append(out, r.Tag)
	}
	return out
}

// lookAtDoing holds what two blocks do against each other, with tags and fields by chance.
func lookAtDoing(t *testing.T, m *samples.Maker, what string, a, b plan.Block) {
	t.Helper()
	if len(a.Dec) == 0 {
		look(t, what, b, a)
		return
	}
	known := tagsOf(a)
	tags := slices.Clone(known) // each once, and then some as they come
	has, isDefault := map[int]bool{}, map[int]bool{}
	for range m.Below(8) {
		tags = append(tags, samples.Pick(m, known...))
	}
	for _, s := range a.Enc {
		has[s.A], isDefault[s.A] = m.Below(3) > 0, m.Below(2) == 0
	}
	if one, two := reads(a, tags), reads(b, tags); !slices.Equal(one, two) {
		t.Errorf("%s of %s\nis %s: with the tags %v it does %s, not %s\n", what, named(a), named(b), tags, brief(two), brief(one))
	}
	if one, two := writes(a, has, isDefault), writes(b, has, isDefault); !slices.Equal(one, two) {
		t.Errorf("%s of %s\nis %s: with the fields %v, %v it does %s, not %s\n", what, named(a), named(b), has, isDefault, brief(two), brief(one))
	}
}

// each tells a program with a pass done on each block.
func each(p plan.Program, pass pass) plan.Program {
	var out plan.Program
	for _, b := range p.Blocks {
		out.Blocks = append(out.Blocks, pass(b))
	}
	return out
}

// lookAtAll has P14.6's sentences on any valid program.
func lookAtAll(t *testing.T, m *samples.Maker, p plan.Program) {
	t.Helper()
	if !plan.Valid(p) {
		t.Fatalf("the test itself is wrong: %s", brief(p))
	}
	for _, c := range append(calls(), call{"Program, of", func(b plan.Block) plan.Block { return b }}) {
		q := each(p, c.pass)
		if c.name == "Program, of" {
			q = better(t, p)
		}
		if !plan.Valid(q) {
			t.Errorf("%s of %s is not valid: %s", c.name, brief(p), brief(q))
			continue
		}
		if one, two := opt.Count(p), opt.Count(q); two > one && slices.Contains([]string{"Fuse", "Thread", "Trim"}, c.name) {
			t.Errorf("%s of %s: %d steps and rows, then %d", c.name, brief(p), one, two)
		}
		for i, b := range p.Blocks {
			lookAtDoing(t, m, c.name, b, q.Blocks[i])
		}
	}
}

func TestP14_6Programs(t *testing.T) {
	m := samples.New(1471)
	lookAtAll(t, m, plan.Program{})
	for range 2500 {
		lookAtAll(t, m, samples.Pick(m, m.Program(), m.Knotted(), m.Knotted(), every()))
	}
}

// TestP14_6Orders has the passes in any order, any number of times.
func TestP14_6Orders(t *testing.T) {
	m := samples.New(1472)
	for range 2000 {
		p := samples.Pick(m, m.Program(), m.Knotted(), m.Knotted())
		q, what := p, ""
		for range 1 + m.Below(8) {
			c := samples.Pick(m, calls()...)
			q, what = each(q, c.pass), what+" "+c.name
		}
		if !plan.Valid(q) {
			t.Errorf("%s of %s is not valid", what, brief(p))
			continue
		}
		for i, b := range p.Blocks {
			lookAtDoing(t, m, what, b, q.Blocks[i])
		}
	}
}

// TestP14_6Short has all short reading steps.
func TestP14_6Short(t *testing.T) {
	m := samples.New(1473)
	for length := 2; length <= 5; length++ {
		eachReading(steps("Tag"), length, func(l []plan.Ins) {
			for _, r := range rowsFor(l) {
				lookAtAll(t, m, of(plan.Block{Dec: l, Enc: steps("End"), Rows: r}))
			}
		})
	}
}

// lookAtLowered has P14.6's sentences on what Lower tells.
func lookAtLowered(t *testing.T, x api.Table) {
	t.Helper()
	p := lowered(t, x)
	q := better(t, p)
	if r := better(t, q); !plan.Equal(q, r) || !samples.SameProgram(q, r) {
		t.Errorf("%s: Program of Program is another one", brief(x))
	}
	for i, b := range q.Blocks {
		for at, s := range b.Dec {
			if s.Op == plan.Case {
				t.Errorf("%s: a Case is left at %d: %s", brief(x), at, named(b))
			}
			if s.Op == plan.Read && (b.Dec[at+1].Op == plan.Set || b.Dec[at+1].Op == plan.Add) {
				t.Errorf("%s: a pair is left at %d: %s", brief(x), at, named(b))
			}
		}
		if hasFields := len(x.Types[i].Fields) > 0; !x.Types[i].Enum && hasFields != (b.Dec[1].Op == plan.Jump) {
			t.Errorf("%s: %s", brief(x), named(b))
		}
	}
}

func TestP14_6Lowered(t *testing.T) {
	m := samples.New(1474)
	lookAtLowered(t, full())
	for _, x := range append(samples.Singles(), em(), wide(), self.Meta(), api.Table{}, samples.Table(samples.Message("M"))) {
		lookAtLowered(t, x)
		lookAtAll(t, m, lowered(t, x))
	}
	for range 1500 {
		x := samples.Pick(m, m.Rich(), m.Table())
		lookAtLowered(t, x)
		lookAtAll(t, m, lowered(t, x))
	}
}

// TestP14_6Compiled has the table of two files.
func TestP14_6Compiled(t *testing.T) {
	x, f := check.Compile(samples.Files())
	if f.Code != api.OK {
		t.Fatalf("fault %v", f)
	}
	lookAtLowered(t, x)
	lookAtAll(t, samples.New(1475), lowered(t, x))
	look(t, "A", better(t, lowered(t, x)).Blocks[0], block(
		"Tag; Jump 26; Msg 1 1 0; Go 0; Msg 2 2 0; Go 0; ReadAdd Int32 3; Go 0; Row 3 Int32 0; Go 0; ReadAdd Bool 4; Go 0; Row 4 Bool 0; Go 0; Clear 5; Clear 6; Msg 5 0 2; Go 0; Read Enum; Sym 3; Clear 5; Clear 6; Set 6; Go 0; ReadSet Float 7; Go 0; Keep; Go 0",
		"Has 1 3 0; Put 10; Sub 1; Has 2 6 0; Put 18; Sub 2; Has 3 8 0; Run 26 Int32; Has 4 10 0; Each 32 Bool 0; Has 5 13 0; Put 42; Sub 0; Has 6 15 0; PutVal 48 Enum; Has 7 17 0; PutVal 61 Float; Rest; End",
		"10 2; 18 4; 24 6; 26 8; 32 10; 34 12; 42 14; 48 18; 61 24"))
}
