package code

import (
	"bytes"

	"cartouche/api"
	"cartouche/plan"
	"cartouche/wire"
)

// mark stands ahead of a program's bytes.
const mark = "CT"

// bytesOf tells a valid program's bytes.
func bytesOf(p plan.Program) []byte {
	l := allOperations()
	out := addNumbers([]byte(mark), len(p.Blocks))
	for _, b := range p.Blocks {
		out = addNumbers(out, len(b.Dec), len(b.Enc), len(b.Rows))
		out = l.addSteps(out, b.Dec)
		out = l.addSteps(out, b.Enc)
		for _, r := range b.Rows {
			out = addNumbers(out, r.Tag, r.To)
		}
	}
	return out
}

func (l *operations) addSteps(out []byte, steps []plan.Ins) []byte {
	for _, s := range steps {
		o, _ := l.numbered(s.Op) // a valid program has no other operations
		out = addNumbers(append(out, byte(o.number)), o.numbers(s)...)
	}
	return out
}

func addNumbers(out []byte, numbers ...int) []byte {
	for _, n := range numbers {
		out = append(out, wire.PutVarint(uint64(n))...)
	}
	return out
}

// reader goes through bytes, up to the first fault: from there on it tells nothing but noughts.
type reader struct {
	operations operations
	left       []byte
	failed     bool
}

// programIn tells the program that bytes begin with. It need not be valid.
func programIn(b []byte) (plan.Program, bool) {
	left, ok := bytes.CutPrefix(b, []byte(mark))
	r := reader{operations: allOperations(), left: left, failed: !ok}
	p := plan.Program{Blocks: list(&r, r.size(), r.block)}
	return p, !r.failed
}

// list reads so many parts. Room is made only as they come: the bytes may promise more than they have.
func list[T any](r *reader, size uint64, part func() T) []T {
	var out []T
	for range size {
		x := part()
		if r.failed {
			return nil
		}
		out = append(out, x)
	}
	return out
}

func (r *reader) block() plan.Block {
	dec, enc, rows := r.size(), r.size(), r.size()
	return plan.Block{Dec: list(r, dec, r.step), Enc: list(r, enc, r.step), Rows: list(r, rows, r.row)}
}

func (r *reader) step() plan.Ins {
	o := r.operation()
	var numbers []int
	for range o.count {
		numbers = append(numbers, r.number())
	}
	return o.step(numbers)
}

func (r *reader) operation() operation {
	if r.failed || len(r.left) == 0 {
		r.failed = true
		return operation{}
	}
	o, ok := r.operations.numbered(int(r.left[0]))
	r.left, r.failed = r.left[1:], !ok
	return o
}

func (r *reader) row() plan.Line {
	tag, to := r.number(), r.number()
	return plan.Line{Tag: tag, To: to}
}

// number reads one of a step or a row. One that is too great for an int falls below 0: no valid program has such a number.
func (r *reader) number() int { return int(r.size()) }

func (r *reader) size() uint64 {
	n, next, e := wire.GetVarint(r.left, 0)
	if r.failed || e != api.OK {
		r.failed = true
		return 0
	}
	r.left = r.left[next:]
	return n
}
