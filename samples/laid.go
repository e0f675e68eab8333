package samples

import (
	"slices"
	"strconv"

	"cartouche/api"
)

// Laid does something at each list of a program.
type Laid struct {
	Blocks func(*[]api.Block)
	Steps  func(*[]api.Ins)
	Rows   func(*[]api.Line)
}

// Program goes through a program.
func (c Laid) Program(p *api.Program) {
	c.Blocks(&p.Blocks)
	for i := range p.Blocks {
		b := &p.Blocks[i]
		c.Steps(&b.Dec)
		c.Steps(&b.Enc)
		c.Rows(&b.Rows)
	}
}

// SameProgram tells whether two programs are the same, a second time beside plan.Equal; nil and empty lists are one.
func SameProgram(a, b api.Program) bool {
	return slices.EqualFunc(a.Blocks, b.Blocks, func(a, b api.Block) bool { return ToldBlock(a) == ToldBlock(b) })
}

// CopyProgram tells a program in memory of its own.
func CopyProgram(p api.Program) api.Program {
	Laid{renew[api.Block], renew[api.Ins], renew[api.Line]}.Program(&p)
	return p
}

// EmptiedProgram tells the same program with empty lists for those that are nil, and nil for those that are empty.
func EmptiedProgram(p api.Program) api.Program {
	out := CopyProgram(p)
	Laid{turnEmpty[api.Block], turnEmpty[api.Ins], turnEmpty[api.Line]}.Program(&out)
	return out
}

// RoomyProgram tells the same program with spare room behind each list, and something in it.
func RoomyProgram(p api.Program) api.Program {
	out := CopyProgram(p)
	Laid{
		func(l *[]api.Block) { Roomy(l, api.Block{Rows: []api.Line{{Tag: 7}}}) },
		func(l *[]api.Ins) { Roomy(l, api.Ins{Op: 7, A: 7}) },
		func(l *[]api.Line) { Roomy(l, api.Line{Tag: 7, To: 7}) },
	}.Program(&out)
	return out
}

// SpoilProgram writes something into all memory of a program's steps and rows, spare room too.
func SpoilProgram(p api.Program) {
	Laid{
		func(l *[]api.Block) {},
		func(l *[]api.Ins) { spoil(*l, api.Ins{Op: 99, A: 99, B: 99, C: 99, D: 99}) },
		func(l *[]api.Line) { spoil(*l, api.Line{Tag: 99, To: 99}) },
	}.Program(&p)
}

func spoil[T any](l []T, with T) {
	l = l[:cap(l)]
	for i := range l {
		l[i] = with
	}
}

// SharesProgram tells whether two lists of a program share memory, spare room too, or one of them with a list of the others.
func SharesProgram(answer api.Program, given ...api.Program) bool {
	again := 0
	blocks, steps, rows := map[*api.Block]int{}, map[*api.Ins]int{}, map[*api.Line]int{}
	see := Laid{
		func(l *[]api.Block) { again += note(blocks, *l) },
		func(l *[]api.Ins) { again += note(steps, *l) },
		func(l *[]api.Line) { again += note(rows, *l) },
	}
	for _, p := range given {
		see.Program(&p)
	}
	again = 0
	see.Program(&answer)
	return again > 0
}

// WhollyProgram tells all that stands in a program's memory, spare room too.
func WhollyProgram(p api.Program) string {
	t := teller{room: true}
	each(&t, p.Blocks, t.block)
	return t.text.String()
}

// ToldBlock tells all of a block by numbers; nil and empty lists are told as one.
func ToldBlock(b api.Block) string {
	t := teller{}
	t.block(b)
	return t.text.String()
}

func (t *teller) block(b api.Block) {
	t.steps("Dec ", b.Dec)
	t.steps("Enc ", b.Enc)
	t.text.WriteString("rows ")
	each(t, b.Rows, func(r api.Line) { t.text.WriteString(strconv.Itoa(r.Tag) + " to " + strconv.Itoa(r.To)) })
}

func (t *teller) steps(ahead string, l []api.Ins) {
	t.text.WriteString(ahead)
	each(t, l, func(s api.Ins) {
		t.number(s.Op)
		t.numbers(s.A, s.B, s.C, s.D)
	})
	t.text.WriteString(". ")
}
