package code

import (
	"strconv"
	"strings"

	"cartouche/plan"
)

// The first words of lines.
const (
	blockWord = "block"
	decWord   = "dec"
	encWord   = "enc"
	rowWord   = "row"
)

// within stands ahead of each line within a block.
const within = "  "

// writer lays a text line by line.
type writer struct {
	operations operations
	text       strings.Builder
}

// textOf tells a valid program's text.
func textOf(p plan.Program) string {
	w := writer{operations: allOperations()}
	for i, b := range p.Blocks {
		w.line(blockWord, i)
		w.steps(decWord, b.Dec)
		w.steps(encWord, b.Enc)
		for _, r := range b.Rows {
			w.line(within+rowWord, r.Tag, r.To)
		}
	}
	return w.text.String()
}

func (w *writer) steps(word string, l []plan.Ins) {
	for at, s := range l {
		o, _ := w.operations.numbered(s.Op) // a valid program has no other operations
		w.line(within+word+" "+strconv.Itoa(at)+" "+o.name, o.numbers(s)...)
	}
}

func (w *writer) line(ahead string, numbers ...int) {
	w.text.WriteString(ahead)
	for _, n := range numbers {
		w.text.WriteString(" " + strconv.Itoa(n))
	}
	w.text.WriteString("\n")
}

// programOf tells the program that lines tell. It need not be valid. Blanks, and the numbers of blocks and steps, are not looked at here: the whole text is held against the program's own.
func programOf(s string) (plan.Program, bool) {
	l := allOperations()
	var p plan.Program
	for line := range strings.Lines(s) {
		words := strings.Fields(line)
		switch {
		case len(words) == 0:
			return plan.Program{}, false
		case words[0] == blockWord:
			p.Blocks = append(p.Blocks, plan.Block{})
		case len(p.Blocks) == 0 || !l.take(&p.Blocks[len(p.Blocks)-1], words):
			return plan.Program{}, false
		}
	}
	return p, true
}

// take puts in the step or the row that a line within a block tells.
func (l *operations) take(b *plan.Block, words []string) bool {
	switch words[0] {
	case decWord:
		return l.takeStep(&b.Dec, words)
	case encWord:
		return l.takeStep(&b.Enc, words)
	case rowWord:
		n, ok := numbersIn(words[1:], 2)
		if ok {
			b.Rows = append(b.Rows, plan.Line{Tag: n[0], To: n[1]})
		}
		return ok
	}
	return false
}

// takeStep puts in a step: behind the line's first word stand its place, its operation and its numbers.
func (l *operations) takeStep(steps *[]plan.Ins, words []string) bool {
	const name = 2
	if len(words) <= name {
		return false
	}
	o, isOne := l.named(words[name])
	numbers, ok := numbersIn(words[name+1:], o.count)
	if !isOne || !ok {
		return false
	}
	*steps = append(*steps, o.step(numbers))
	return true
}

// numbersIn tells the numbers that words are: just so many.
func numbersIn(words []string, count int) ([]int, bool) {
	if len(words) != count {
		return nil, false
	}
	var out []int
	for _, word := range words {
		n, err := strconv.Atoi(word)
		if err != nil {
			return nil, false
		}
		out = append(out, n)
	}
	return out, true
}
