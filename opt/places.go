package opt

import (
	"iter"
	"slices"

	"cartouche/plan"
)

// ofRow stands, among operations, for a row: no operation has this number.
const ofRow = 0

// copied tells a block in memory of its own.
func copied(b plan.Block) plan.Block {
	return plan.Block{Dec: slices.Clone(b.Dec), Enc: slices.Clone(b.Enc), Rows: slices.Clone(b.Rows)}
}

func isEnum(b plan.Block) bool { return len(b.Dec) == 0 && len(b.Enc) == 0 }

func hasJump(l []plan.Ins) bool {
	return slices.ContainsFunc(l, func(s plan.Ins) bool { return s.Op == plan.Jump })
}

// named goes through the places that steps and rows name, each with the operation that names it, so that they may be changed.
func named(l []plan.Ins, rows []plan.Line) iter.Seq2[int, *int] {
	return func(yield func(int, *int) bool) {
		for at := range l {
			if place := placeOf(&l[at]); place != nil && !yield(l[at].Op, place) {
				return
			}
		}
		for at := range rows {
			if !yield(ofRow, &rows[at].To) {
				return
			}
		}
	}
}

// placeOf tells the number of a step that names a place, or nil.
func placeOf(s *plan.Ins) *int {
	switch s.Op {
	case plan.Case, plan.Has:
		return &s.B
	case plan.Jump, plan.Go:
		return &s.A
	}
	return nil
}

// shortening tells fewer steps for some, and at which place each that stays stands. Its marks are at first none, one for each step.
type shortening func(l []plan.Ins, rows []plan.Line, marks []bool) ([]plan.Ins, map[int]int)

// shortened tells a block with fewer steps, places that are named going along. Rows belong to the reading steps alone.
func shortened(b plan.Block, shorten shortening) plan.Block {
	marks := make([]bool, max(len(b.Dec), len(b.Enc)))
	dec, decPlaces := shorten(b.Dec, b.Rows, marks[:len(b.Dec)])
	clear(marks)
	enc, encPlaces := shorten(b.Enc, nil, marks[:len(b.Enc)])
	out := plan.Block{Dec: dec, Enc: enc, Rows: slices.Clone(b.Rows)}
	renumber(out.Dec, out.Rows, decPlaces)
	renumber(out.Enc, nil, encPlaces)
	return out
}

// renumber makes each place that is named the one at which its step stands now.
func renumber(l []plan.Ins, rows []plan.Line, places map[int]int) {
	for _, place := range named(l, rows) {
		if now, isKept := places[*place]; isKept {
			*place = now
		}
	}
}
