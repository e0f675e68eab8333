package vm

import (
	"slices"

	"cartouche/api"
	"cartouche/plan"
	"cartouche/scalar"
	"cartouche/wire"
)

// writer is the machine that writes. The message on top of its stack is at work; each one below waits for the one above.
type writer struct {
	blocks []plan.Block
	stack  []sheet
	most   int // bytes of each message
	told   []byte
}

// sheet is a message that is written by a block.
type sheet struct {
	steps []plan.Ins
	place int // of the step that is at work
	msg   api.Msg
	field *api.Field // none at first
	out   []byte
	most  int
	count int    // of the field's messages that the step has written
	head  []byte // what stands ahead of a message in a map's chunk
}

func (w *writer) run(index int, m api.Msg) {
	w.enter(index, m)
	for len(w.stack) > 0 {
		p := &w.stack[len(w.stack)-1]
		w.do(p, p.steps[p.place])
	}
}

func (w *writer) enter(block int, m api.Msg) {
	w.stack = append(w.stack, sheet{steps: w.blocks[block].Enc, msg: m, most: w.most})
}

// leave hands what is written of a message to the step that waits for it.
func (w *writer) leave() {
	below := len(w.stack) - 1
	done := w.stack[below]
	w.stack = w.stack[:below]
	if below == 0 {
		w.told = done.out
		return
	}
	w.stack[below-1].take(wire.PutChunk(done.out))
}

func (w *writer) do(p *sheet, s plan.Ins) {
	isWaiting := false
	switch s.Op {
	case plan.Has:
		p.place = p.has(s)
		return
	case plan.End:
		w.leave()
		return
	case plan.Put:
		p.addTag(s.A)
	case plan.Val:
		p.add(put(s.A, p.single()))
	case plan.PutVal:
		p.addTag(s.A)
		p.look()
		p.add(put(s.B, p.single()))
	case plan.Sub:
		p.single()
		isWaiting = w.descend(p, s.A)
	case plan.Each:
		isWaiting = w.each(p, s)
	case plan.Run:
		p.run(s)
	case plan.Pairs:
		isWaiting = w.pairs(p, s)
	case plan.Rest:
		p.add(sure(wire.Join(p.msg.Unknown)))
	}
	if !isWaiting {
		p.look()
		p.place++
	}
}

// sure tells bytes, or throws why there are none.
func sure(b []byte, e api.Errno) []byte {
	if e != api.OK {
		panic(e)
	}
	return b
}

func put(kind int, v api.Val) []byte { return sure(scalar.Put(kind, v)) }

// add writes bytes. Those past the bound are counted by one alone: a step may have an error of its own behind them, but what it writes is not told any more.
func (p *sheet) add(b []byte) {
	room := p.most + 1 - len(p.out)
	p.out = append(p.out, b[:min(len(b), room)]...)
}

func (p *sheet) addTag(tag int) { p.add(wire.PutVarint(uint64(tag))) }

// look is asked behind each step.
func (p *sheet) look() {
	if len(p.out) > p.most {
		panic(api.ErrTooBig)
	}
}

// has tells the place behind Has. (model.Get would copy the field for each step.)
func (p *sheet) has(s plan.Ins) int {
	i := slices.IndexFunc(p.msg.Fields, func(f api.Field) bool { return f.Number == s.A })
	if i < 0 {
		return s.B
	}
	p.field = &p.msg.Fields[i]
	if l := p.field.Vals; s.C > 0 && len(l) == 1 && isDefault(l[0]) {
		return s.B
	}
	return p.place + 1
}

// isDefault tells it of any kind that has no parts: what a kind does not use must be empty, too.
func isDefault(v api.Val) bool { return v.N == 0 && len(v.B) == 0 && len(v.M) == 0 }

// own tells the machine's field.
func (p *sheet) own() *api.Field {
	if p.field == nil {
		panic(api.ErrType)
	}
	return p.field
}

// single tells the field's value, if it has just one.
func (p *sheet) single() api.Val {
	l := p.own().Vals
	if len(l) != 1 {
		panic(api.ErrType)
	}
	return l[0]
}

// descend goes into the next one of the field's messages, if one is left.
func (w *writer) descend(p *sheet, block int) bool {
	if p.count == len(p.field.Vals) {
		p.count = 0
		return false
	}
	v := p.field.Vals[p.count]
	if len(v.M) != 1 {
		panic(api.ErrType)
	}
	w.enter(block, v.M[0])
	return true
}

// take writes the chunk of a message, as the step does that waits for it.
func (p *sheet) take(chunk []byte) {
	p.count++
	switch s := p.steps[p.place]; s.Op {
	case plan.Sub:
		p.add(chunk)
	case plan.Each:
		p.addTag(s.A)
		p.add(chunk)
	case plan.Pairs:
		p.addTag(s.A)
		p.add(wire.PutChunk(append(p.head, chunk...)))
	}
}

// each tells whether it waits for a message.
func (w *writer) each(p *sheet, s plan.Ins) bool {
	own := p.own()
	if s.B == api.Message {
		return w.descend(p, s.C)
	}
	for _, v := range own.Vals {
		p.addTag(s.A)
		p.add(put(s.B, v))
	}
	return false
}

func (p *sheet) run(s plan.Ins) {
	own := p.own()
	if len(own.Vals) == 0 {
		return
	}
	var row []byte
	for _, v := range own.Vals {
		row = append(row, put(s.B, v)...)
	}
	p.addTag(s.A)
	p.add(wire.PutChunk(row))
}

// pairs tells whether it waits for a message.
func (w *writer) pairs(p *sheet, s plan.Ins) bool {
	own := p.own()
	if len(own.Keys) != len(own.Vals) {
		panic(api.ErrType)
	}
	if s.C == api.Message {
		if p.count < len(own.Keys) {
			p.head = head(s, own.Keys[p.count])
		}
		return w.descend(p, s.D)
	}
	for i, key := range own.Keys {
		p.addTag(s.A)
		p.add(wire.PutChunk(append(head(s, key), put(s.C, own.Vals[i])...)))
	}
	return false
}

// head tells what stands ahead of a value in a map's chunk.
func head(s plan.Ins, key api.Val) []byte {
	b := slices.Concat(entryTag(keyNumber, s.B), put(s.B, key))
	return append(b, entryTag(valNumber, s.C)...)
}

func entryTag(number, kind int) []byte {
	own, _ := scalar.Wire(kind)
	return sure(wire.PutTag(number, own))
}
