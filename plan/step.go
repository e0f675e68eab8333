package plan

import "cartouche/api"

// start is the place of Tag, where each entry begins.
const start = 0

// What becomes of a message that Msg reads: its C.
const (
	into = iota
	behind
	anew
)

// tagBits are the lowest bits of a tag: those of its wire kind.
const tagBits = 3

func tagOf(number, kind int) int { return number<<tagBits | kind }

// isTag tells whether a number is the tag of a field's number and a wire kind.
func isTag(n int) bool {
	switch n & (1<<tagBits - 1) {
	case api.Varint, api.Fix64, api.Chunk, api.Fix32:
		return isField(n >> tagBits)
	}
	return false
}

func isField(number int) bool { return number >= 1 && number <= api.MaxNumber }

// step tells a step with these numbers, in order; the others are 0.
func step(op int, numbers ...int) Ins {
	var all [4]int
	copy(all[:], numbers)
	return Ins{Op: op, A: all[0], B: all[1], C: all[2], D: all[3]}
}

// layout is steps that are laid one behind the other.
type layout struct{ steps []Ins }

func (l *layout) lay(op int, numbers ...int) { l.steps = append(l.steps, step(op, numbers...)) }

// layAhead lays a step whose B is the place of one that is not laid yet. What it tells is called when that one is the next: then the place is known.
func (l *layout) layAhead(op int, numbers ...int) (arrive func()) {
	at := len(l.steps)
	l.lay(op, numbers...)
	return func() { l.steps[at].B = len(l.steps) }
}
