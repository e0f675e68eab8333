package code_test

import (
	"bytes"
	"encoding/binary"
	"fmt"
	"regexp"
	"strings"
	"testing"

	"cartouche/plan"
	"cartouche/samples"
)

// The chapter a second time: bytes and texts are laid of pieces, and read strictly from the first piece on.

// table is chapter 13's, by rising numbers: an operation's name in small letters, and a great letter for each number that it names.
var table = strings.Fields("tag caseAB jumpA goA readA symA setA addA clearA msgABC rowABC pairABCD keep readsetAB readaddAB hasABC putA valA subA eachABC runAB pairsABCD rest end putvalAB")

func nameAgain(op int) string { return strings.TrimRight(table[op-1], "ABCD") }

func countAgain(op int) int { return len(table[op-1]) - len(nameAgain(op)) }

// numbersAgain tells those of a step's numbers that its operation names.
func numbersAgain(s plan.Ins) []int {
	var out []int
	for i, n := range []int{s.A, s.B, s.C, s.D} {
		if i < countAgain(s.Op) {
			out = append(out, n)
		}
	}
	return out
}

// piece is a varint of a program's bytes, or what is none: then more stands there.
type piece struct {
	n    uint64
	more []byte
}

func (p piece) laid() []byte {
	if len(p.more) > 0 {
		return p.more
	}
	return binary.AppendUvarint(nil, p.n)
}

func joined(l []piece) []byte {
	var out []byte
	for _, p := range l {
		out = append(out, p.laid()...)
	}
	return out
}

// pieces tells a program's bytes by pieces; its operations must be operations.
func pieces(p plan.Program) []piece {
	out := []piece{{more: []byte{67, 84}}, {n: uint64(len(p.Blocks))}}
	for _, b := range p.Blocks {
		out = append(out, piece{n: uint64(len(b.Dec))}, piece{n: uint64(len(b.Enc))}, piece{n: uint64(len(b.Rows))})
		for _, l := range [][]plan.Ins{b.Dec, b.Enc} {
			for _, s := range l {
				out = append(out, piece{more: []byte{byte(s.Op)}})
				for _, n := range numbersAgain(s) {
					out = append(out, piece{n: uint64(n)})
				}
			}
		}
		for _, r := range b.Rows {
			out = append(out, piece{n: uint64(r.Tag)}, piece{n: uint64(r.To)})
		}
	}
	return out
}

// linesAgain tells a program's text by lines.
func linesAgain(p plan.Program) []string {
	var out []string
	for i, b := range p.Blocks {
		out = append(out, fmt.Sprintf("block %d", i))
		for side, l := range [][]plan.Ins{b.Dec, b.Enc} {
			for at, s := range l {
				line := fmt.Sprintf("  %s %d %s", []string{"dec", "enc"}[side], at, nameAgain(s.Op))
				for _, n := range numbersAgain(s) {
					line += fmt.Sprintf(" %d", n)
				}
				out = append(out, line)
			}
		}
		for _, r := range b.Rows {
			out = append(out, fmt.Sprintf("  row %d %d", r.Tag, r.To))
		}
	}
	return out
}

// input is bytes that are read from the left; the first fault is thrown.
type input struct{ b []byte }

func (in *input) one() int {
	if len(in.b) == 0 {
		panic("no byte is left")
	}
	c := in.b[0]
	in.b = in.b[1:]
	return int(c)
}

func (in *input) varint() int {
	n, size := binary.Uvarint(in.b)
	if size <= 0 || n >= 1<<40 || len(binary.AppendUvarint(nil, n)) != size { // no number of a program is that great
		panic("no varint")
	}
	in.b = in.b[size:]
	return int(n)
}

func (in *input) steps(count int) []plan.Ins {
	var out []plan.Ins
	for len(out) < count {
		op := in.one()
		if op < 1 || op > len(table) {
			panic("no operation")
		}
		var n [4]int
		for i := range countAgain(op) {
			n[i] = in.varint()
		}
		out = append(out, plan.Ins{Op: op, A: n[0], B: n[1], C: n[2], D: n[3]})
	}
	return out
}

// readAgain tells what Read must tell.
func readAgain(b []byte) (p plan.Program, ok bool) {
	defer func() {
		if recover() != nil {
			p, ok = plan.Program{}, false
		}
	}()
	in := input{b}
	if in.one() != 'C' || in.one() != 'T' {
		return plan.Program{}, false
	}
	for range in.varint() {
		dec, enc, count := in.varint(), in.varint(), in.varint()
		x := plan.Block{Dec: in.steps(dec), Enc: in.steps(enc)}
		for range count {
			tag := in.varint()
			x.Rows = append(x.Rows, plan.Line{Tag: tag, To: in.varint()})
		}
		p.Blocks = append(p.Blocks, x)
	}
	if len(in.b) > 0 || !plan.Valid(p) {
		return plan.Program{}, false
	}
	return p, true
}

// A line: its first word tells of which sort it is. Numbers have at most ten digits: no program has greater ones.
var form = regexp.MustCompile(`^(?:(block)|  (?:(dec|enc) (0|[1-9][0-9]{0,9}) ([a-z]+)|(row)))((?: (?:0|[1-9][0-9]{0,9}))*)\n$`)

// parseAgain tells what Parse must tell.
func parseAgain(s string) (plan.Program, bool) {
	var p plan.Program
	for len(s) > 0 {
		end := strings.Index(s, "\n") + 1
		words := form.FindStringSubmatch(s[:end])
		if words == nil || !lineAgain(&p, words) {
			return plan.Program{}, false
		}
		s = s[end:]
	}
	if !plan.Valid(p) {
		return plan.Program{}, false
	}
	return p, true
}

func lineAgain(p *plan.Program, words []string) bool {
	var n []int
	for _, word := range strings.Fields(words[6]) {
		n = append(n, 0)
		fmt.Sscan(word, &n[len(n)-1])
	}
	last := len(p.Blocks) - 1
	if words[1] == "block" {
		p.Blocks = append(p.Blocks, plan.Block{})
		return len(n) == 1 && n[0] == last+1
	}
	if last < 0 {
		return false
	}
	b := &p.Blocks[last]
	if words[5] == "row" {
		if len(n) == 2 {
			b.Rows = append(b.Rows, plan.Line{Tag: n[0], To: n[1]})
		}
		return len(n) == 2
	}
	l, isLate := &b.Dec, len(b.Enc)+len(b.Rows) > 0
	if words[2] == "enc" {
		l, isLate = &b.Enc, len(b.Rows) > 0
	}
	for op := 1; op <= len(table); op++ {
		if nameAgain(op) == words[4] && countAgain(op) == len(n) {
			n = append(n, 0, 0, 0, 0)
			*l = append(*l, plan.Ins{Op: op, A: n[0], B: n[1], C: n[2], D: n[3]})
			return !isLate && words[3] == fmt.Sprint(len(*l)-1)
		}
	}
	return false
}

// lookAtAll holds all calls against the second reading, of a valid program.
func lookAtAll(t *testing.T, what string, p plan.Program) {
	t.Helper()
	b := joined(pieces(p))
	lookAtBytes(t, what, p, b)
	lookAtText(t, what, p, lines(linesAgain(p)...))
	lookAtSum(t, what, p, b)
}

func TestP16Again(t *testing.T) {
	m := samples.New(1601)
	for _, p := range []plan.Program{{}, enum(), every(), better(t, every()), lowered(t, em()), lowered(t, wide()), lowered(t, full()), better(t, lowered(t, full()))} {
		lookAtAll(t, "by hand", p)
	}
	for range 4000 {
		lookAtAll(t, "by chance", some(t, m))
	}
	for _, x := range samples.Singles() {
		p := lowered(t, x)
		lookAtAll(t, "a field alone", p)
		lookAtAll(t, "a field alone, optimised", better(t, p))
	}
}

// TestP16RefusedAgain has programs with a few things changed, and any: those that are not valid are refused.
func TestP16RefusedAgain(t *testing.T) {
	m := samples.New(1602)
	valid, others := 0, 0
	for range 10000 {
		p := samples.Pick(m, some(t, m), m.WildProgram())
		for range 1 + m.Below(3) {
			p = m.BentProgram(p)
			if plan.Valid(p) {
				valid++
				lookAtAll(t, "changed", p)
			} else {
				others++
				lookAtNoProgram(t, "changed", p)
			}
		}
	}
	if valid < 3000 || others < 5000 {
		t.Errorf("%d are valid, %d are not", valid, others)
	}
}

// lookAtReadAgain holds Read against the second reading, and tells whether there is a program.
func lookAtReadAgain(t *testing.T, b []byte) bool {
	t.Helper()
	want, ok := readAgain(b)
	if !ok {
		lookAtNoBytes(t, "changed", b)
		return false
	}
	lookAtBytes(t, "changed", want, b)
	return true
}

// TestP16_1ReadAgain has bytes of programs with something changed.
func TestP16_1ReadAgain(t *testing.T) {
	m := samples.New(1603)
	good, others := 0, 0
	for range 20000 {
		b := joined(pieces(some(t, m)))
		for range 1 + m.Below(3) {
			b = m.Bent(b)
			if lookAtReadAgain(t, b) {
				good++
			} else {
				others++
			}
		}
	}
	if good < 1000 || others < 10000 {
		t.Errorf("%d are good, %d are not", good, others)
	}
}

// TestP16_1EachByte changes each byte of a program that has all operations to each other one, takes it out, and puts others ahead of it.
func TestP16_1EachByte(t *testing.T) {
	b := joined(pieces(every()))
	good, others := 0, 0
	look := func(c []byte) {
		if lookAtReadAgain(t, c) {
			good++
		} else {
			others++
		}
	}
	for at := range b {
		look(append(bytes.Clone(b[:at]), b[at+1:]...))
		for c := range 256 {
			changed := bytes.Clone(b)
			changed[at] = byte(c)
			look(changed)
			look(append(append(bytes.Clone(b[:at]), byte(c)), b[at:]...))
		}
	}
	if good < 1000 || others < 50000 {
		t.Errorf("%d are good, %d are not", good, others)
	}
}

// lookAtParseAgain holds Parse against the second reading, and tells whether there is a program.
func lookAtParseAgain(t *testing.T, s string) bool {
	t.Helper()
	want, ok := parseAgain(s)
	if !ok {
		lookAtNoText(t, "changed", s)
		return false
	}
	lookAtText(t, "changed", want, s)
	return true
}

// bentText tells a text with one thing changed by chance.
func bentText(m *samples.Maker, s string) string {
	at := m.Below(len(s) + 1)
	with := samples.Pick(m, " ", "  ", "\n", "\t", "\r", "0", "1", "2", "8", "9", "-", "+", "T", "a", "row", "block 1\n", "\x00", "\u00a0", "\xff")
	switch m.Below(4) {
	case 0:
		return s[:at] + with + s[at:]
	case 1:
		return s[:at] + s[min(at+1, len(s)):]
	case 2:
		return s[:at] + with + s[min(at+1, len(s)):]
	}
	l := strings.SplitAfter(s, "\n")
	i, j := m.Below(len(l)), m.Below(len(l))
	switch m.Below(3) {
	case 0:
		l[i], l[j] = l[j], l[i]
	case 1:
		l[i] += l[j]
	default:
		l[i] = ""
	}
	return strings.Join(l, "")
}

// TestP16_2ParseAgain has texts of programs with something changed.
func TestP16_2ParseAgain(t *testing.T) {
	m := samples.New(1604)
	good, others := 0, 0
	for range 8000 {
		s := lines(linesAgain(some(t, m))...)
		for range 1 + m.Below(3) {
			s = bentText(m, s)
			if lookAtParseAgain(t, s) {
				good++
			} else {
				others++
			}
		}
	}
	if good < 200 || others < 5000 {
		t.Errorf("%d are good, %d are not", good, others)
	}
}

// TestP16_2EachByte changes each byte of a text that has all operations to some others, takes it out, and puts others ahead of it.
func TestP16_2EachByte(t *testing.T) {
	s := lines(linesAgain(every())...)
	good, others := 0, 0
	look := func(c string) {
		if lookAtParseAgain(t, c) {
			good++
		} else {
			others++
		}
	}
	for at := range s {
		look(s[:at] + s[at+1:])
		for _, c := range "\x00\t\n\r 0189+-xTadeo\u00a0\u0660" {
			look(s[:at] + string(c) + s[at+1:])
			look(s[:at] + string(c) + s[at:])
		}
	}
	if good < 300 || others < 10000 {
		t.Errorf("%d are good, %d are not", good, others)
	}
}

// TestNames holds the names of operations against those that the package plan has.
func TestNames(t *testing.T) {
	for i, name := range samples.Operations() {
		if nameAgain(i+1) != strings.ToLower(name) {
			t.Errorf("operation %d: %s, want %s", i+1, nameAgain(i+1), name)
		}
	}
	if len(table) != plan.PutVal {
		t.Errorf("%d operations", len(table))
	}
}
