package samples

import (
	"cartouche/api"
	"cartouche/plan"
)

// BentProgram tells a program with one thing changed by chance, so that it may not be valid.
func (m *Maker) BentProgram(p api.Program) api.Program {
	out := CopyProgram(p)
	if len(out.Blocks) == 0 || m.Below(20) == 0 {
		changeList(m, true, &out.Blocks, Pick(m, api.Block{}, api.Block{Rows: []api.Line{{Tag: 3}}}, api.Block{Dec: []api.Ins{{Op: plan.Tag}, {Op: plan.Go}}, Enc: []api.Ins{{Op: plan.End}}}))
		return out
	}
	b := &out.Blocks[m.Below(len(out.Blocks))]
	switch m.Below(7) {
	case 0:
		m.bendRows(&b.Rows)
	case 1, 2, 3:
		m.bendSteps(&b.Enc)
	default:
		m.bendSteps(&b.Dec)
	}
	return out
}

func (m *Maker) bendRows(l *[]api.Line) {
	if len(*l) == 0 || m.Below(4) == 0 {
		changeList(m, true, l, api.Line{Tag: Pick(m, 0, 8, 11, 50), To: m.Below(4)})
		return
	}
	r := &(*l)[m.Below(len(*l))]
	n := Pick(m, &r.Tag, &r.To)
	*n = m.Near(*n)
}

func (m *Maker) bendSteps(l *[]api.Ins) {
	if len(*l) == 0 || m.Below(6) == 0 {
		changeList(m, true, l, Pick(m, api.Ins{Op: plan.Tag}, api.Ins{Op: plan.Go}, api.Ins{Op: plan.Keep}, api.Ins{Op: plan.Jump, A: 3}, api.Ins{Op: plan.Rest}, api.Ins{Op: plan.End}))
		return
	}
	s := &(*l)[m.Below(len(*l))]
	if m.Below(5) == 0 {
		s.Op = Pick(m, m.Below(plan.PutVal+2), m.Near(s.Op))
		return
	}
	n := Pick(m, &s.A, &s.B, &s.C, &s.D)
	*n = m.Near(*n)
}

// WildProgram tells a program in which anything may stand anywhere.
func (m *Maker) WildProgram() api.Program {
	var p api.Program
	near := func() int { return m.Near(m.Below(9)) }
	steps := func() []api.Ins {
		var l []api.Ins
		for range m.Below(5) {
			l = append(l, api.Ins{Op: Pick(m, 1+m.Below(plan.PutVal), near()), A: near(), B: near(), C: near(), D: near()})
		}
		return l
	}
	for range m.Below(4) {
		b := api.Block{Dec: steps(), Enc: steps()}
		for range m.Below(3) {
			b.Rows = append(b.Rows, api.Line{Tag: near(), To: near()})
		}
		p.Blocks = append(p.Blocks, b)
	}
	return p
}
