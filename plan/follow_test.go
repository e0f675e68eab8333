package plan_test

import (
	"fmt"
	"slices"
	"strconv"
	"testing"

	"cartouche/api"
	"cartouche/check"
	"cartouche/plan"
	"cartouche/samples"
	"cartouche/self"
	"cartouche/table"
)

// TestP13_4Valid: what Lower tells is valid.
func TestP13_4Valid(t *testing.T) {
	for _, x := range []api.Table{{}, em(), wide(), refs(), full(), self.Meta(), allMembers()} {
		lookAtValid(t, "by hand", lowered(t, x), true)
	}
	for _, x := range samples.Singles() {
		lookAtValid(t, "a field alone", lowered(t, x), true)
	}
	m := samples.New(1341)
	good := 0
	for range 4000 {
		x := samples.Pick(m, m.Rich(), m.Table(), m.BentTable(), m.Spoiled(m.Table()))
		p, e := plan.Lower(x)
		if (e == api.OK) != table.Good(x) {
			t.Errorf("Lower(%s): error %d", brief(x), e)
		}
		if e == api.OK {
			good++
		}
		lookAtValid(t, "by chance", p, true)
	}
	if good < 2500 {
		t.Errorf("%d are good", good)
	}
}

// allMembers is the greatest table of which each field is a member, so that there are as many steps as can be.
func allMembers() api.Table {
	x := full()
	for i := range x.Types {
		x.Types[i].Oneofs = []string{"o"}
		for at := range x.Types[i].Fields {
			x.Types[i].Fields[at].Label = api.Member
		}
	}
	return x
}

// TestP13_4Compiled has tables of files.
func TestP13_4Compiled(t *testing.T) {
	x, f := check.Compile(samples.Files())
	if f.Code != api.OK {
		t.Fatalf("fault %v", f)
	}
	p := lowered(t, x)
	lookAtValid(t, "two files", p, true)
	want := plan.Program{Blocks: []plan.Block{
		block(`Tag; Case 10 4; Msg 1 1 0; Go 0; Case 18 7; Msg 2 2 0; Go 0; Case 24 11; Read Int32; Add 3; Go 0; Case 26 14; Row 3 Int32 0; Go 0; Case 32 18; Read Bool; Add 4; Go 0; Case 34 21; Row 4 Bool 0; Go 0;
			Case 42 26; Clear 5; Clear 6; Msg 5 0 2; Go 0; Case 48 33; Read Enum; Sym 3; Clear 5; Clear 6; Set 6; Go 0; Case 61 37; Read Float; Set 7; Go 0; Keep; Go 0`,
			"Has 1 3 0; Put 10; Sub 1; Has 2 6 0; Put 18; Sub 2; Has 3 8 0; Run 26 Int32; Has 4 10 0; Each 32 Bool 0; Has 5 13 0; Put 42; Sub 0; Has 6 16 0; Put 48; Val Enum; Has 7 19 0; Put 61; Val Float; Rest; End"),
		block("Tag; Keep; Go 0", "Rest; End"),
		block("Tag; Case 10 4; Pair 1 Bool String 0; Go 0; Case 18 7; Pair 2 Int32 Message 1; Go 0; Keep; Go 0", "Has 1 2 0; Pairs 10 Bool String 0; Has 2 4 0; Pairs 18 Int32 Message 1; Rest; End"),
		{Rows: rows("0 0; 7 0")},
	}}
	if !plan.Equal(p, want) || !sameProgram(p, want) {
		t.Errorf("%s, want %s", brief(p), brief(want))
	}
}

// TestP13_4Alone: a type's block is the same, whatever the other types are but for their sorts, and whatever names there are.
func TestP13_4Alone(t *testing.T) {
	m := samples.New(1342)
	for range 1500 {
		x := samples.Pick(m, m.Rich(), m.Table())
		index := m.Below(len(x.Types))
		want, e := plan.LowerType(x, index)
		if e != api.OK {
			t.Fatalf("%s: error %d", brief(x), e)
		}
		y := samples.CopyTable(x)
		for i := range y.Types {
			if i != index {
				y.Types[i] = otherOf(m, y.Types[i].Enum)
			}
			y.Types[i].Name = "Other" + strconv.Itoa(i)
		}
		rename(&y.Types[index])
		lookAtType(t, "among others", y, index, want)
	}
}

// otherOf tells a type of a sort that needs no others.
func otherOf(m *samples.Maker, isEnum bool) api.Type {
	if isEnum {
		return api.Type{Enum: true, Symbols: []api.Symbol{{Name: "Other"}, {Name: "More", Number: 1 + m.Below(9)}}}
	}
	return api.Type{Fields: []api.FieldType{{Name: "other", Number: 1 + m.Below(9), Kind: 1 + m.Below(api.Bytes)}}[m.Below(2):], Reserved: []api.Range{{Low: 20, High: 30}}}
}

// rename gives other names to a type's parts, and takes out what no program has: its ranges.
func rename(x *api.Type) {
	x.Reserved = nil
	for i := range x.Fields {
		x.Fields[i].Name = "renamed" + strconv.Itoa(i)
	}
	for i := range x.Oneofs {
		x.Oneofs[i] = "of" + strconv.Itoa(i)
	}
	for i := range x.Symbols {
		x.Symbols[i].Name = "Renamed" + strconv.Itoa(i)
	}
}

// flat tells a table without names within names, so that its types may stand in any order.
func flat(x api.Table) api.Table {
	x = samples.CopyTable(x)
	for i := range x.Types {
		x.Types[i].Name = "T" + strconv.Itoa(i)
	}
	return x
}

// shuffled tells numbers below count in any order.
func shuffled(m *samples.Maker, count int) []int {
	l := span(0, count)
	for i := range l {
		j := m.Below(i + 1)
		l[i], l[j] = l[j], l[i]
	}
	return l
}

// TestP13_4Indices puts types, symbols and oneofs in other places: the program is the same but for the blocks' indices.
func TestP13_4Indices(t *testing.T) {
	m := samples.New(1343)
	for range 1500 {
		x := flat(samples.Pick(m, m.Rich(), m.Table()))
		places := shuffled(m, len(x.Types))
		y := api.Table{Types: make([]api.Type, len(x.Types))}
		for i, z := range samples.CopyTable(x).Types {
			y.Types[places[i]] = moved(m, z, places)
		}
		p, q := lowered(t, x), lowered(t, y)
		for i, b := range p.Blocks {
			if want := movedBlock(b, places); told(q.Blocks[places[i]]) != told(want) {
				t.Errorf("%s\nat other places\n%s\nwant\n%s", brief(x.Types[i]), brief(told(q.Blocks[places[i]])), brief(told(want)))
			}
		}
	}
}

// moved tells a type whose types stand at other places, its symbols and oneofs too.
func moved(m *samples.Maker, z api.Type, places []int) api.Type {
	oneofs := shuffled(m, len(z.Oneofs))
	names := slices.Clone(z.Oneofs)
	for i, name := range names {
		z.Oneofs[oneofs[i]] = name
	}
	for i := range z.Fields {
		f := &z.Fields[i]
		if f.Kind >= api.Enum {
			f.Ref = places[f.Ref]
		}
		if f.Label == api.Member {
			f.Oneof = oneofs[f.Oneof]
		}
	}
	if len(z.Symbols) > 1 {
		rest := slices.Clone(z.Symbols[1:])
		for i, at := range shuffled(m, len(rest)) {
			z.Symbols[1+at] = rest[i]
		}
	}
	return z
}

// movedBlock tells a block whose blocks stand at other places.
func movedBlock(b plan.Block, places []int) plan.Block {
	b = plan.Block{Dec: slices.Clone(b.Dec), Enc: slices.Clone(b.Enc), Rows: b.Rows}
	to := func(n *int, kind int) {
		if kind >= api.Enum {
			*n = places[*n]
		}
	}
	for _, l := range [][]plan.Ins{b.Dec, b.Enc} {
		for i := range l {
			switch s := &l[i]; s.Op {
			case plan.Sym, plan.Sub:
				to(&s.A, api.Enum)
			case plan.Msg:
				to(&s.B, api.Message)
			case plan.Row:
				if s.C > 0 {
					s.C = places[s.C-1] + 1
				}
			case plan.Each:
				to(&s.C, s.B)
			case plan.Pair, plan.Pairs:
				to(&s.D, s.C)
			}
		}
	}
	return b
}

// summary tells what two tables with one program have in common: of each type its sort, of an enum its numbers, of each field its number, kind, label, key, type, and the members of its oneof.
func summary(x api.Table) string {
	var out []string
	for _, y := range x.Types {
		var numbers []int
		for _, s := range y.Symbols {
			numbers = append(numbers, s.Number)
		}
		slices.Sort(numbers)
		out = append(out, fmt.Sprint(y.Enum, numbers))
		for _, f := range y.Fields {
			var members []int
			for _, g := range y.Fields {
				if f.Label == api.Member && g.Label == api.Member && f.Oneof == g.Oneof {
					members = append(members, g.Number)
				}
			}
			out = append(out, fmt.Sprint(f.Number, f.Kind, f.Label, f.Key, f.Ref, members))
		}
	}
	return fmt.Sprint(out)
}

// TestP13_4Equal: programs are Equal just if what they were made of is.
func TestP13_4Equal(t *testing.T) {
	m := samples.New(1344)
	same, others := 0, 0
	for range 10000 {
		x := samples.Pick(m, m.Rich(), m.Table(), wide(), samples.Single(1+m.Below(api.Message), api.Optional, 0))
		y := samples.CopyTable(x)
		for i := range y.Types {
			if m.Below(2) == 0 {
				rename(&y.Types[i])
			}
		}
		if m.Below(5) > 0 {
			y = m.Spoiled(y)
		}
		p, e := plan.Lower(y)
		if e != api.OK {
			continue
		}
		want := summary(x) == summary(y)
		if plan.Equal(lowered(t, x), p) != want {
			t.Errorf("Equal is %v:\n%s\n%s", !want, brief(x), brief(y))
		}
		if want {
			same++
		} else {
			others++
		}
	}
	if same < 500 || others < 500 {
		t.Errorf("%d are the same, %d are not", same, others)
	}
}

// TestP13_4Apart has fields alone of all kinds, labels and keys: no two have one program.
func TestP13_4Apart(t *testing.T) {
	programs := map[string]api.FieldType{}
	for _, x := range samples.Singles() {
		b, _ := plan.LowerType(x, samples.Around)
		f := x.Types[samples.Around].Fields[0]
		if other, ok := programs[told(b)]; ok {
			t.Errorf("%+v has the program of %+v", f, other)
		}
		programs[told(b)] = f
	}
	if len(programs) < 250 {
		t.Errorf("%d programs", len(programs))
	}
}
