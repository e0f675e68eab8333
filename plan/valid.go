package plan

import (
	"slices"

	"cartouche/api"
	"cartouche/scalar"
)

// maxSymbol is the greatest number of a symbol.
const maxSymbol = 1<<31 - 1

// blocks are those of a program that is looked at: none need be valid.
type blocks []Block

// hasSteps tells a message's block from an enum's, valid or not.
func hasSteps(b Block) bool { return len(b.Dec)+len(b.Enc) > 0 }

func (l blocks) has(index int) bool { return index >= 0 && index < len(l) }

func (l blocks) isEnum(index int) bool { return l.has(index) && !hasSteps(l[index]) }

func (l blocks) isMessage(index int) bool { return l.has(index) && hasSteps(l[index]) }

func (l blocks) isValid(b Block) bool {
	switch {
	case !doRise(b.Rows):
		return false
	case !hasSteps(b):
		return areSymbols(b.Rows)
	}
	return l.isDec(b.Dec) && l.isEnc(b.Enc) && areTargets(b.Rows, b.Dec)
}

// doRise tells whether rows rise by Tag, each once.
func doRise(l []Line) bool {
	for i := range l {
		if i > 0 && l[i-1].Tag >= l[i].Tag {
			return false
		}
	}
	return true
}

func areSymbols(l []Line) bool {
	isNone := func(r Line) bool { return r != Line{Tag: r.Tag} || r.Tag < 0 || r.Tag > maxSymbol }
	return len(l) > 0 && len(l) <= api.MaxFields && !slices.ContainsFunc(l, isNone)
}

// areTargets tells whether a message's rows are those of its Jumps.
func areTargets(l []Line, dec []Ins) bool {
	last := start // of all Jumps: none stands at the first place
	for at, s := range dec {
		if s.Op == Jump {
			last = at
		}
	}
	isNone := func(r Line) bool { return !isTag(r.Tag) || r.To <= last || r.To >= len(dec) }
	return (last > start) == (len(l) > 0) && !slices.ContainsFunc(l, isNone)
}

func (l blocks) isDec(steps []Ins) bool {
	for at, s := range steps {
		isAhead := func(to int) bool { return to > at && to < len(steps) }
		if (s.Op == Tag) != (at == start) || !l.isReading(s, isAhead) {
			return false
		}
	}
	return len(steps) > 0 && steps[len(steps)-1].Op == Go
}

// isReading holds a step against one that has the numbers alone that its operation names.
func (l blocks) isReading(s Ins, isAhead func(int) bool) bool {
	switch s.Op {
	case Tag, Keep:
		return s == step(s.Op)
	case Case:
		return s == step(s.Op, s.A, s.B) && isTag(s.A) && isAhead(s.B)
	case Jump:
		return s == step(s.Op, s.A) && isAhead(s.A)
	case Go:
		return s == step(s.Op, s.A) && (s.A == start || isAhead(s.A))
	case Read:
		return s == step(s.Op, s.A) && isSingle(s.A)
	case Sym:
		return s == step(s.Op, s.A) && l.isEnum(s.A)
	case Set, Add, Clear:
		return s == step(s.Op, s.A) && isField(s.A)
	case Msg:
		return s == step(s.Op, s.A, s.B, s.C) && isField(s.A) && l.isMessage(s.B) && s.C >= into && s.C <= anew
	case Row:
		return s == step(s.Op, s.A, s.B, s.C) && isField(s.A) && scalar.Numeric(s.B) && l.areRowSymbols(s.B, s.C)
	case Pair:
		return isField(s.A) && scalar.IsKey(s.B) && l.isOfKind(s.C, s.D)
	case ReadSet, ReadAdd:
		return s == step(s.Op, s.A, s.B) && isSingle(s.A) && isField(s.B)
	}
	return false
}

func (l blocks) isEnc(steps []Ins) bool {
	for at, s := range steps {
		isAhead := func(to int) bool { return to > at && to < len(steps) }
		if (s.Op == End) != (at == len(steps)-1) || !l.isWriting(s, isAhead) {
			return false
		}
	}
	return len(steps) > 0
}

func (l blocks) isWriting(s Ins, isAhead func(int) bool) bool {
	switch s.Op {
	case Has:
		return s == step(s.Op, s.A, s.B, s.C) && isField(s.A) && isAhead(s.B) && (s.C == 0 || isSingle(s.C))
	case Put:
		return s == step(s.Op, s.A) && isTag(s.A)
	case Val:
		return s == step(s.Op, s.A) && isSingle(s.A)
	case Sub:
		return s == step(s.Op, s.A) && l.isMessage(s.A)
	case Each:
		return s == step(s.Op, s.A, s.B, s.C) && isTag(s.A) && l.isOfKind(s.B, s.C)
	case Run:
		return s == step(s.Op, s.A, s.B) && isTag(s.A) && scalar.Numeric(s.B)
	case Pairs:
		return isTag(s.A) && scalar.IsKey(s.B) && l.isOfKind(s.C, s.D)
	case Rest, End:
		return s == step(s.Op)
	case PutVal:
		return s == step(s.Op, s.A, s.B) && isTag(s.A) && isSingle(s.B)
	}
	return false
}

// isSingle tells whether values of a kind have no parts.
func isSingle(kind int) bool { return kind >= api.Bool && kind <= api.Enum }

// isOfKind tells whether a block is the one that a kind's values need: 0, if they need none.
func (l blocks) isOfKind(kind, block int) bool {
	switch kind {
	case api.Enum:
		return l.isEnum(block)
	case api.Message:
		return l.isMessage(block)
	}
	return isSingle(kind) && block == 0
}

// areRowSymbols tells it of a Row: there the block stands with 1 more, so that 0 is none.
func (l blocks) areRowSymbols(kind, number int) bool {
	if kind == api.Enum {
		return l.isEnum(number - 1)
	}
	return number == 0
}
