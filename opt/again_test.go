package opt_test

import (
	"maps"
	"slices"
	"testing"

	"cartouche/plan"
	"cartouche/samples"
)

// The chapter a second time: a step knows the step that it names, and places are told of where the steps stand at last.

type node struct {
	s  plan.Ins
	to *node
}

// arrow is a row that knows its step.
type arrow struct {
	tag int
	to  *node
}

// net is a list of steps, with its rows.
type net struct {
	nodes  []*node
	arrows []arrow
}

// target tells the place that a step names, or nil.
func target(s *plan.Ins) *int {
	return map[int]*int{plan.Case: &s.B, plan.Has: &s.B, plan.Jump: &s.A, plan.Go: &s.A}[s.Op]
}

func netOf(l []plan.Ins, rows []plan.Line) net {
	var n net
	for _, s := range l {
		n.nodes = append(n.nodes, &node{s: s})
	}
	for _, x := range n.nodes {
		if place := target(&x.s); place != nil {
			x.to = n.nodes[*place]
		}
	}
	for _, r := range rows {
		n.arrows = append(n.arrows, arrow{r.Tag, n.nodes[r.To]})
	}
	return n
}

func (n net) laid() ([]plan.Ins, []plan.Line) {
	places := map[*node]int{}
	for at, x := range n.nodes {
		places[x] = at
	}
	var l []plan.Ins
	for _, x := range n.nodes {
		s := x.s
		if place := target(&s); place != nil {
			*place = places[x.to]
		}
		l = append(l, s)
	}
	var rows []plan.Line
	for _, a := range n.arrows {
		rows = append(rows, plan.Line{Tag: a.tag, To: places[a.to]})
	}
	return l, rows
}

// onNets does something with both nets of a message's block.
func onNets(b plan.Block, do func(n *net)) plan.Block {
	if len(b.Dec) == 0 && len(b.Enc) == 0 {
		return b
	}
	dec, enc := netOf(b.Dec, b.Rows), netOf(b.Enc, nil)
	do(&dec)
	do(&enc)
	var out plan.Block
	out.Dec, out.Rows = dec.laid()
	out.Enc, _ = enc.laid()
	return out
}

func tablesAgain(b plan.Block) plan.Block {
	return onNets(b, func(n *net) {
		if len(n.arrows) > 0 || len(n.nodes) < 2 || n.nodes[1].s.Op != plan.Case {
			return
		}
		x := n.nodes[1]
		byTag := map[int]*node{}
		for ; x.s.Op == plan.Case; x = x.to {
			if byTag[x.s.A] == nil {
				byTag[x.s.A] = n.nodes[slices.Index(n.nodes, x)+1]
			}
		}
		for _, tag := range slices.Sorted(maps.Keys(byTag)) {
			n.arrows = append(n.arrows, arrow{tag, byTag[tag]})
		}
		n.nodes[1].s, n.nodes[1].to = plan.Ins{Op: plan.Jump}, x
	})
}

func fuseAgain(b plan.Block) plan.Block { return onNets(b, func(n *net) { n.fuse() }) }

// fuse makes one of the first pair that there is, till there is none.
func (n *net) fuse() {
	pairs := map[[2]int]int{{plan.Read, plan.Set}: plan.ReadSet, {plan.Read, plan.Add}: plan.ReadAdd, {plan.Put, plan.Val}: plan.PutVal}
	for at := 1; at < len(n.nodes); at++ {
		a, b := n.nodes[at-1], n.nodes[at]
		op := pairs[[2]int{a.s.Op, b.s.Op}]
		if op == 0 || slices.ContainsFunc(n.nodes, func(x *node) bool { return x.to == b }) || slices.ContainsFunc(n.arrows, func(r arrow) bool { return r.to == b }) {
			continue
		}
		a.s = plan.Ins{Op: op, A: a.s.A, B: b.s.A}
		n.nodes = slices.Delete(n.nodes, at, at+1)
		n.fuse()
		return
	}
}

func threadAgain(b plan.Block) plan.Block {
	return onNets(b, func(n *net) {
		if n.nodes[0].s.Op != plan.Tag { // only of reading steps
			return
		}
		was := netOf(n.laid())
		goOn := func(to *node, mayBeFirst bool) *node {
			at := slices.Index(n.nodes, to)
			for was.nodes[at].s.Op == plan.Go {
				next := slices.Index(was.nodes, was.nodes[at].to)
				if next == 0 && !mayBeFirst {
					break
				}
				at = next
			}
			return n.nodes[at]
		}
		for _, x := range n.nodes {
			if x.to != nil {
				x.to = goOn(x.to, x.s.Op == plan.Go)
			}
		}
		for i := range n.arrows {
			n.arrows[i].to = goOn(n.arrows[i].to, false)
		}
	})
}

func trimAgain(b plan.Block) plan.Block {
	return onNets(b, func(n *net) {
		in := map[*node]bool{n.nodes[0]: true}
		for count := 0; count < len(in); { // till no more are reached
			count = len(in)
			for at, x := range n.nodes {
				if in[x] {
					for _, y := range n.after(at, x) {
						in[y] = true
					}
				}
			}
		}
		n.nodes = slices.DeleteFunc(n.nodes, func(x *node) bool { return !in[x] })
		if !slices.ContainsFunc(n.nodes, func(x *node) bool { return x.s.Op == plan.Jump }) {
			n.arrows = nil
		}
	})
}

// after tells the steps that are reached from one.
func (n *net) after(at int, x *node) []*node {
	switch x.s.Op {
	case plan.Go:
		return []*node{x.to}
	case plan.Jump:
		out := []*node{x.to}
		for _, a := range n.arrows {
			out = append(out, a.to)
		}
		return out
	case plan.Case, plan.Has:
		return []*node{x.to, n.nodes[at+1]}
	case plan.End:
		return nil
	}
	return []*node{n.nodes[at+1]}
}

func blockAgain(b plan.Block) plan.Block {
	return trimAgain(threadAgain(fuseAgain(tablesAgain(b))))
}

// lookAgain holds each pass against its second reading, and tells which of them changed the block.
func lookAgain(t *testing.T, b plan.Block) []string {
	t.Helper()
	again := []pass{tablesAgain, fuseAgain, threadAgain, trimAgain, blockAgain}
	var changed []string
	for i, c := range calls() {
		want := again[i](b)
		look(t, c.name, c.pass(b), want, b)
		if !same(want, b) {
			changed = append(changed, c.name)
		}
	}
	return changed
}

// TestP14_Again has blocks of many valid programs.
func TestP14_Again(t *testing.T) {
	m := samples.New(1461)
	counts := map[string]int{}
	for range 4000 {
		p := samples.Pick(m, m.Program(), m.Knotted(), m.Knotted(), lowered(t, m.Table()), every())
		for _, b := range p.Blocks {
			for _, c := range lookAgain(t, b) {
				counts[c]++
			}
		}
	}
	for _, c := range calls() {
		if counts[c.name] < 1000 {
			t.Errorf("%s changes %d blocks", c.name, counts[c.name])
		}
	}
}

// TestP14_Short has all short reading steps of a few operations, with all rows of one or two tags.
func TestP14_Short(t *testing.T) {
	count := 0
	for length := 2; length <= 6; length++ {
		eachReading(steps("Tag"), length, func(l []plan.Ins) {
			for _, r := range rowsFor(l) {
				count++
				lookAgain(t, plan.Block{Dec: l, Enc: steps("End"), Rows: r})
			}
		})
	}
	if count < 20000 {
		t.Errorf("%d blocks", count)
	}
}

// eachReading does something with all lists of that length that begin so.
func eachReading(l []plan.Ins, length int, do func([]plan.Ins)) {
	at := len(l)
	next := func(s plan.Ins) { eachReading(append(slices.Clone(l), s), length, do) }
	if at == length-1 {
		do(append(slices.Clone(l), plan.Ins{Op: plan.Go}))
		return
	}
	for _, s := range steps("Go 0; Read Bool; Set 3; Keep") {
		next(s)
	}
	for to := at + 1; to < length; to++ {
		next(plan.Ins{Op: plan.Go, A: to})
		next(plan.Ins{Op: plan.Jump, A: to})
		next(plan.Ins{Op: plan.Case, A: 8, B: to})
		if at == 1 || to == at+1 {
			next(plan.Ins{Op: plan.Case, A: 16, B: to})
		}
	}
}

// rowsFor tells all rows of one tag, and some of two, that such steps may have.
func rowsFor(l []plan.Ins) [][]plan.Line {
	last := 0
	for at, s := range l {
		if s.Op == plan.Jump {
			last = at
		}
	}
	if last == 0 {
		return [][]plan.Line{nil}
	}
	var out [][]plan.Line
	for to := last + 1; to < len(l); to++ {
		out = append(out, []plan.Line{{Tag: 8, To: to}}, []plan.Line{{Tag: 8, To: to}, {Tag: 16, To: len(l) - 1}})
	}
	return out
}
