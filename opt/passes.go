package opt

import (
	"cmp"
	"slices"

	"cartouche/plan"
)

// first is the place at which what is done with a tag begins: behind Tag.
const first = 1

// chain goes from Case to Case, and tells a row for each, and the place at which the chain ends.
func chain(l []plan.Ins) (rows []plan.Line, behind int) {
	at := first
	for at < len(l) && l[at].Op == plan.Case {
		rows = append(rows, plan.Line{Tag: l[at].A, To: at + 1})
		if l[at].B <= at { // in a block that is not valid: it could go round for ever
			break
		}
		at = l[at].B
	}
	return firstByTag(rows), at
}

// firstByTag puts rows in order, and keeps the first of those with one tag.
func firstByTag(rows []plan.Line) []plan.Line {
	slices.SortStableFunc(rows, func(a, b plan.Line) int { return cmp.Compare(a.Tag, b.Tag) })
	return slices.CompactFunc(rows, func(a, b plan.Line) bool { return a.Tag == b.Tag })
}

// fused makes one step of each two that are next to one another, but where one goes to the second one alone.
func fused(l []plan.Ins, rows []plan.Line, isNamed []bool) ([]plan.Ins, map[int]int) {
	for _, place := range named(l, rows) {
		if *place >= 0 && *place < len(l) {
			isNamed[*place] = true
		}
	}
	var out []plan.Ins
	places := map[int]int{}
	for at := 0; at < len(l); at++ {
		places[at] = len(out)
		step := l[at]
		if at+1 < len(l) && !isNamed[at+1] {
			if both, isOne := one(step, l[at+1]); isOne {
				step = both
				at++
			}
		}
		out = append(out, step)
	}
	return out, places
}

// one tells the step that does what two do.
func one(a, b plan.Ins) (plan.Ins, bool) {
	op := 0
	switch {
	case a.Op == plan.Read && b.Op == plan.Set:
		op = plan.ReadSet
	case a.Op == plan.Read && b.Op == plan.Add:
		op = plan.ReadAdd
	case a.Op == plan.Put && b.Op == plan.Val:
		op = plan.PutVal
	default:
		return plan.Ins{}, false
	}
	return plan.Ins{Op: op, A: a.A, B: b.A}, true
}

// way is where one comes to from a Go: end, and endAhead, if one does not go back to the beginning but stays at the last Go.
type way struct{ end, endAhead int }

// ways tells the way from each Go. From right to left, so that each needs to look at the next one alone: a Go that does not go back goes ahead.
func ways(l []plan.Ins) map[int]way {
	out := map[int]way{}
	for at, s := range slices.Backward(l) {
		if s.Op != plan.Go {
			continue
		}
		if next, isGo := out[s.A]; isGo {
			out[at] = next
		} else if s.A == 0 {
			out[at] = way{end: 0, endAhead: at}
		} else {
			out[at] = way{end: s.A, endAhead: s.A}
		}
	}
	return out
}

// trimmed tells the steps that are reached.
func trimmed(l []plan.Ins, rows []plan.Line, isReached []bool) ([]plan.Ins, map[int]int) {
	reach(l, rows, isReached)
	var out []plan.Ins
	places := map[int]int{}
	for at, s := range l {
		if isReached[at] {
			places[at] = len(out)
			out = append(out, s)
		}
	}
	return out, places
}

// reach marks what is reached.
func reach(l []plan.Ins, rows []plan.Line, isReached []bool) {
	var open []int
	to := func(at int) {
		if at >= 0 && at < len(l) && !isReached[at] {
			isReached[at] = true
			open = append(open, at)
		}
	}
	to(0)
	for len(open) > 0 {
		at := open[len(open)-1]
		open = open[:len(open)-1]
		switch s := l[at]; s.Op {
		case plan.Go:
			to(s.A)
		case plan.Jump:
			to(s.A)
			for _, r := range rows {
				to(r.To)
			}
			rows = nil // those of another Jump are the same
		case plan.Case, plan.Has:
			to(at + 1)
			to(s.B)
		case plan.End:
		default:
			to(at + 1)
		}
	}
}
