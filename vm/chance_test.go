package vm_test

import (
	"slices"

	"cartouche/api"
	"cartouche/plan"
	"cartouche/samples"
)

// chance makes bytes and messages that a program mostly takes.
type chance struct {
	*samples.Maker
	blocks []plan.Block
}

// tags tells the tags that a block knows, and others.
func tags(b plan.Block) []int {
	out := []int{8, 10, 4294967293}
	for _, s := range b.Dec {
		if s.Op == plan.Case {
			out = append(out, s.A, s.A)
		}
	}
	for _, r := range b.Rows {
		out = append(out, r.Tag, r.Tag)
	}
	return out
}

// bytes goes the way of a block's steps, and lays for each what it reads.
func (c chance) bytes(index, within int) []byte {
	b := c.blocks[index]
	known := tags(b)
	var out []byte
	tag, place := 0, 0
	for left := c.Below(6); ; {
		s := b.Dec[place]
		place++
		switch s.Op {
		case plan.Tag:
			if left == 0 {
				return out
			}
			left--
			tag = samples.Pick(c.Maker, known...)
			out = append(out, digits(uint64(tag))...)
		case plan.Case:
			if tag != s.A {
				place = s.B
			}
		case plan.Jump:
			place = s.A
			if i := slices.IndexFunc(b.Rows, func(r plan.Line) bool { return r.Tag == tag }); i >= 0 {
				place = b.Rows[i].To
			}
		case plan.Go:
			place = s.A
		default:
			out = append(out, c.stepBytes(s, b.Dec[place], tag, within)...)
		}
	}
}

func (c chance) stepBytes(s, next plan.Ins, tag, within int) []byte {
	switch s.Op {
	case plan.Read, plan.ReadSet, plan.ReadAdd:
		if next.Op == plan.Sym {
			return c.symbolBytes(s.A, next.A)
		}
		return c.valueBytes(s.A, 0, 0)
	case plan.Msg:
		return c.valueBytes(api.Message, s.B, within)
	case plan.Row:
		var row []byte
		for range c.Below(4) {
			row = append(row, c.valueBytes(s.B, s.C-1, 0)...)
		}
		return chunk(row)
	case plan.Pair:
		return chunk(c.pairBytes(s, within))
	case plan.Keep:
		return samples.Behind(api.Entry{Kind: tag % 8, N: uint64(c.Below(300)), B: []byte("ab")[:c.Below(3)]})
	}
	return nil
}

// symbolBytes tells one of an enum's numbers as a value of a kind.
func (c chance) symbolBytes(kind, block int) []byte {
	v := num(int64(samples.Pick(c.Maker, c.blocks[block].Rows...).Tag))
	if kind == api.String || kind == api.Bytes {
		v = str("a")
	}
	return bare(kind, v)
}

func (c chance) valueBytes(kind, block, within int) []byte {
	switch {
	case kind == api.Message && within == 0:
		return chunk()
	case kind == api.Message:
		return chunk(c.bytes(block, within-1))
	case kind == api.Enum && len(c.blocks[block].Dec) == 0:
		return c.symbolBytes(kind, block)
	}
	good, _ := samples.Values(kind)
	return bare(kind, samples.Pick(c.Maker, good...))
}

func (c chance) pairBytes(s plan.Ins, within int) []byte {
	var out []byte
	for range samples.Pick(c.Maker, 0, 1, 2, 2, 2, 3) {
		switch c.Below(8) {
		case 0:
			x := c.Entry()
			out = append(out, all(tag(x.Number, x.Kind), samples.Behind(x))...)
		case 1, 2, 3:
			out = append(out, all(tag(1, ownWire(s.B)), c.valueBytes(s.B, 0, 0))...)
		default:
			out = append(out, all(tag(2, ownWire(s.C)), c.valueBytes(s.C, s.D, within))...)
		}
	}
	return out
}

// message tells a message with fields for which a block asks, mostly such as the step behind writes.
func (c chance) message(index, within int) api.Msg {
	var out api.Msg
	l := c.blocks[index].Enc
	for at, s := range l {
		if s.Op == plan.Has && c.Below(4) > 0 {
			out.Fields = append(out.Fields, c.field(s.A, l[at+1:], within))
		}
	}
	for range c.Below(4) * c.Below(2) {
		out.Unknown = append(out.Unknown, c.Entry())
	}
	return out
}

// field tells one that the first of these steps takes that writes what is in a field.
func (c chance) field(number int, behind []plan.Ins, within int) api.Field {
	for _, s := range behind {
		switch s.Op {
		case plan.Val:
			return field(number, c.values(1, s.A, 0, 0)...)
		case plan.PutVal:
			return field(number, c.values(1, s.B, 0, 0)...)
		case plan.Sub:
			return field(number, c.values(1, api.Message, s.A, within)...)
		case plan.Each:
			return field(number, c.values(c.Below(4), s.B, s.C, within)...)
		case plan.Run:
			return field(number, c.values(c.Below(4), s.B, 0, 0)...)
		case plan.Pairs:
			n := c.Below(4)
			return api.Field{Number: number, Keys: c.values(n, s.B, 0, 0), Vals: c.values(n, s.C, s.D, within)}
		}
	}
	return field(number)
}

func (c chance) values(count, kind, block, within int) []api.Val {
	var out []api.Val
	for range count {
		if kind == api.Message {
			out = append(out, in(c.messageWithin(block, within)))
			continue
		}
		good, bad := samples.Values(kind)
		if c.Below(25) == 0 {
			good = append(good, bad...)
		}
		out = append(out, samples.Pick(c.Maker, good...))
	}
	return out
}

func (c chance) messageWithin(block, within int) api.Msg {
	if within == 0 {
		return msg()
	}
	return c.message(block, within-1)
}
