package vm

import (
	"cmp"
	"slices"

	"cartouche/api"
	"cartouche/fields"
	"cartouche/plan"
)

// reader is the machine that reads. The message on top of its stack is at work; each one below waits for the one above.
type reader struct {
	blocks []plan.Block
	stack  []frame
	steps  int
	told   api.Msg
}

// frame is a message that is read by a block.
type frame struct {
	cursor
	block  plan.Block
	place  int // of the next step
	tag    int
	value  api.Val
	msg    api.Msg
	pair   *pair       // the one that the last step has begun to read
	rising map[int]int // by number of a field: the kind by which its keys are known to rise
	asker  plan.Ins    // the step below that waits for the message
}

// What becomes of a message that Msg reads: its C.
const (
	into = iota
	behind
)

// tagBits are the lowest bits of a tag: those of its wire kind.
const tagBits = 3

func (r *reader) run(index int, b []byte) {
	r.enter(index, b, api.Msg{}, plan.Ins{})
	for len(r.stack) > 0 {
		f := &r.stack[len(r.stack)-1]
		if f.pair != nil {
			r.goOn(f)
			continue
		}
		s := f.block.Dec[f.place]
		f.place++
		r.steps++
		r.do(f, s)
	}
}

// enter begins to read bytes by a block into a message, for a step of the one that is at work.
func (r *reader) enter(block int, b []byte, m api.Msg, asker plan.Ins) {
	if len(r.stack) == api.MaxDepth {
		panic(api.ErrTooDeep)
	}
	r.stack = append(r.stack, frame{cursor: cursor{bytes: b}, block: r.blocks[block], msg: m, asker: asker})
}

// leave hands the message that is at work to the step that waits for it.
func (r *reader) leave() {
	below := len(r.stack) - 1
	done := r.stack[below]
	r.stack = r.stack[:below]
	v := api.Val{M: []api.Msg{done.msg}}
	switch s := done.asker; s.Op {
	case plan.Msg:
		if f := &r.stack[below-1]; s.C == behind {
			f.add(s.A, v)
		} else {
			f.set(s.A, v)
		}
	case plan.Pair:
		r.stack[below-1].pair.val = v
	default:
		r.told = done.msg
	}
}

func (r *reader) do(f *frame, s plan.Ins) {
	switch s.Op {
	case plan.Tag:
		if f.isAtEnd() {
			r.leave()
			return
		}
		number, kind := f.getTag()
		f.tag = number<<tagBits | kind
	case plan.Case:
		if f.tag != s.A {
			f.place = s.B
		}
	case plan.Jump:
		f.place = s.A
		if row, ok := rowOf(f.block.Rows, f.tag); ok {
			f.place = row.To
		}
	case plan.Go:
		f.place = s.A
	case plan.Read:
		f.value = f.get(s.A)
	case plan.Sym:
		r.symbol(s.A, f.value)
	case plan.Set:
		f.set(s.A, f.value)
	case plan.Add:
		f.add(s.A, f.value)
	case plan.Clear:
		f.clear(s.A)
	case plan.Msg:
		r.enter(s.B, f.getChunk(), f.start(s), s)
	case plan.Row:
		r.row(f, s)
	case plan.Pair:
		f.pair = newPair(s, f.getChunk())
	case plan.Keep:
		f.msg.Unknown = append(f.msg.Unknown, f.rest(f.tag>>tagBits, f.tag&(1<<tagBits-1)))
	case plan.ReadSet:
		f.value = f.get(s.A)
		f.set(s.B, f.value)
	case plan.ReadAdd:
		f.value = f.get(s.A)
		f.add(s.B, f.value)
	}
}

func rowOf(l []plan.Line, tag int) (plan.Line, bool) {
	i, ok := slices.BinarySearchFunc(l, tag, func(row plan.Line, tag int) int { return cmp.Compare(row.Tag, tag) })
	if !ok {
		return plan.Line{}, false
	}
	return l[i], true
}

// symbol throws ErrSymbol, if a value is none of an enum.
func (r *reader) symbol(block int, v api.Val) {
	if _, ok := rowOf(r.blocks[block].Rows, int(v.N)); !ok {
		panic(api.ErrSymbol)
	}
}

// row reads values to a chunk's end.
func (r *reader) row(f *frame, s plan.Ins) {
	c := cursor{bytes: f.getChunk()}
	own := fields.Present(&f.msg, s.A)
	for !c.isAtEnd() {
		v := c.get(s.B)
		if s.C > 0 {
			r.symbol(s.C-1, v)
		}
		own.Vals = append(own.Vals, v)
	}
}

// start tells the message into which Msg reads.
func (f *frame) start(s plan.Ins) api.Msg {
	i, ok := fields.Place(f.msg, s.A)
	if !ok || s.C != into {
		return api.Msg{}
	}
	if own := f.msg.Fields[i]; len(own.Vals) == 1 && len(own.Vals[0].M) == 1 {
		return own.Vals[0].M[0]
	}
	return api.Msg{}
}

func (f *frame) set(number int, v api.Val) {
	*fields.Present(&f.msg, number) = api.Field{Number: number, Vals: []api.Val{v}}
}

func (f *frame) add(number int, v api.Val) {
	own := fields.Present(&f.msg, number)
	own.Vals = append(own.Vals, v)
}

func (f *frame) clear(number int) {
	if i, ok := fields.Place(f.msg, number); ok {
		f.msg.Fields = slices.Delete(f.msg.Fields, i, i+1)
	}
}
