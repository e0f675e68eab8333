package samples

import (
	"slices"

	"cartouche/api"
	"cartouche/plan"
)

// Program tells a valid program in which steps stand as they come, with Jumps and rows too; its block 0 is a message's.
func (m *Maker) Program() api.Program {
	return m.programOf(stepMaker{
		reads:  []int{plan.Case, plan.Case, plan.Jump, plan.Go, plan.Read, plan.Read, plan.Sym, plan.Set, plan.Add, plan.Clear, plan.Msg, plan.Row, plan.Pair, plan.Keep, plan.ReadSet, plan.ReadAdd},
		writes: []int{plan.Has, plan.Has, plan.Put, plan.Put, plan.Val, plan.Val, plan.Sub, plan.Each, plan.Run, plan.Pairs, plan.Rest, plan.PutVal},
		number: m.FieldNumber,
		wires:  []int{api.Varint, api.Fix64, api.Chunk, api.Fix32},
	})
}

// Knotted tells such a program of few operations, most of which go elsewhere or stand next to ones that can be made one with them, and of few tags.
func (m *Maker) Knotted() api.Program {
	return m.programOf(stepMaker{
		reads:  Pick(m, []int{plan.Case, plan.Case, plan.Go, plan.Read, plan.Set, plan.Add}, []int{plan.Case, plan.Jump, plan.Go, plan.Go, plan.Read, plan.Set}, []int{plan.Case, plan.Case, plan.Case, plan.Go, plan.Keep}),
		writes: []int{plan.Has, plan.Put, plan.Val},
		number: func() int { return 1 + m.Below(4) },
		wires:  []int{api.Varint},
	})
}

func (m *Maker) programOf(k stepMaker) api.Program {
	k.Maker, k.messages = m, []int{0}
	count := 1 + m.Below(5)
	for i := 1; i < count; i++ {
		if m.Below(3) == 0 {
			k.enums = append(k.enums, i)
		} else {
			k.messages = append(k.messages, i)
		}
	}
	p := api.Program{Blocks: make([]api.Block, count)}
	for _, i := range k.enums {
		p.Blocks[i].Rows = k.symbolRows()
	}
	for _, i := range k.messages {
		dec := k.dec()
		p.Blocks[i] = api.Block{Dec: dec, Enc: k.enc(), Rows: k.jumpRows(dec)}
	}
	return p
}

// stepMaker makes the steps of a program whose blocks are of these sorts, of some operations, numbers of fields and wire kinds.
type stepMaker struct {
	*Maker
	enums, messages []int
	reads, writes   []int
	number          func() int
	wires           []int
}

// rising tells some of these numbers, in order and each once: at least one.
func (m *Maker) rising(l ...int) []int {
	var out []int
	for range 1 + m.Below(4) {
		out = append(out, Pick(m, l...))
	}
	slices.Sort(out)
	return slices.Compact(out)
}

func (k *stepMaker) symbolRows() []api.Line {
	var out []api.Line
	for _, n := range k.rising(0, 1, 2, 5, 1000, high-1, high) {
		out = append(out, api.Line{Tag: n})
	}
	return out
}

// jumpRows tells the rows of reading steps: none, if there is no Jump.
func (k *stepMaker) jumpRows(dec []api.Ins) []api.Line {
	last := 0
	for at, s := range dec {
		if s.Op == plan.Jump {
			last = at
		}
	}
	if last == 0 {
		return nil
	}
	var out []api.Line
	for _, n := range k.rising(k.tag(), k.tag(), k.tag(), 8, api.MaxNumber*8+api.Fix32) {
		out = append(out, api.Line{Tag: n, To: k.ahead(last, len(dec))})
	}
	return out
}

// ahead tells a place behind that one.
func (k *stepMaker) ahead(at, count int) int { return at + 1 + k.Below(count-at-1) }

func (k *stepMaker) tag() int {
	return k.number()*8 + Pick(k.Maker, k.wires...)
}

func (k *stepMaker) single() int { return 1 + k.Below(api.Enum) }

// numeric tells a numeric kind: an Enum only if there is a block of one, for Row needs it.
func (k *stepMaker) numeric() int {
	if len(k.enums) > 0 && k.Below(3) == 0 {
		return api.Enum
	}
	return 1 + k.Below(api.Double)
}

// kindAndBlock tells a kind and the block that it needs, or 0.
func (k *stepMaker) kindAndBlock() (kind, block int) {
	switch {
	case k.Below(3) == 0:
		return api.Message, Pick(k.Maker, k.messages...)
	case len(k.enums) > 0 && k.Below(3) == 0:
		return api.Enum, Pick(k.Maker, k.enums...)
	}
	return 1 + k.Below(api.Bytes), 0
}

func (k *stepMaker) dec() []api.Ins {
	count := 2 + k.Below(12)
	out := []api.Ins{{Op: plan.Tag}}
	for len(out) < count-1 {
		out = append(out, k.reading(len(out), count))
	}
	return append(out, api.Ins{Op: plan.Go})
}

func (k *stepMaker) reading(at, count int) api.Ins {
	field := k.number()
	switch op := Pick(k.Maker, k.reads...); op {
	case plan.Case:
		return api.Ins{Op: op, A: k.tag(), B: k.ahead(at, count)}
	case plan.Jump:
		return api.Ins{Op: op, A: k.ahead(at, count)}
	case plan.Go:
		return api.Ins{Op: op, A: k.ahead(at, count) * k.Below(2)}
	case plan.Read:
		return api.Ins{Op: op, A: k.single()}
	case plan.Set, plan.Add, plan.Clear:
		return api.Ins{Op: op, A: field}
	case plan.Msg:
		return api.Ins{Op: op, A: field, B: Pick(k.Maker, k.messages...), C: k.Below(3)}
	case plan.Row:
		kind := k.numeric()
		if kind == api.Enum {
			return api.Ins{Op: op, A: field, B: kind, C: Pick(k.Maker, k.enums...) + 1}
		}
		return api.Ins{Op: op, A: field, B: kind}
	case plan.Pair:
		kind, block := k.kindAndBlock()
		return api.Ins{Op: op, A: field, B: Pick(k.Maker, KeyKinds()...), C: kind, D: block}
	case plan.ReadSet, plan.ReadAdd:
		return api.Ins{Op: op, A: k.single(), B: field}
	case plan.Sym:
		if len(k.enums) > 0 {
			return api.Ins{Op: op, A: Pick(k.Maker, k.enums...)}
		}
	}
	return api.Ins{Op: plan.Keep}
}

func (k *stepMaker) enc() []api.Ins {
	count := 1 + k.Below(12)
	var out []api.Ins
	for len(out) < count-1 {
		out = append(out, k.writing(len(out), count))
	}
	return append(out, api.Ins{Op: plan.End})
}

func (k *stepMaker) writing(at, count int) api.Ins {
	switch op := Pick(k.Maker, k.writes...); op {
	case plan.Has:
		return api.Ins{Op: op, A: k.number(), B: k.ahead(at, count), C: k.single() * k.Below(2)}
	case plan.Put:
		return api.Ins{Op: op, A: k.tag()}
	case plan.Val:
		return api.Ins{Op: op, A: k.single()}
	case plan.Sub:
		return api.Ins{Op: op, A: Pick(k.Maker, k.messages...)}
	case plan.Each:
		kind, block := k.kindAndBlock()
		return api.Ins{Op: op, A: k.tag(), B: kind, C: block}
	case plan.Run:
		return api.Ins{Op: op, A: k.tag(), B: k.numeric()}
	case plan.Pairs:
		kind, block := k.kindAndBlock()
		return api.Ins{Op: op, A: k.tag(), B: Pick(k.Maker, KeyKinds()...), C: kind, D: block}
	case plan.PutVal:
		return api.Ins{Op: op, A: k.tag(), B: k.single()}
	}
	return api.Ins{Op: plan.Rest}
}
