package plan_test

import (
	"fmt"
	"slices"
	"strings"
	"testing"

	"cartouche/api"
	"cartouche/plan"
	"cartouche/samples"
)

// The chapter a second time: parts are laid out as lists, and places are told by counting what stands ahead of a part.

// joined puts parts one behind the other: the B of each part's first step is the place behind the part.
func joined(ahead []plan.Ins, parts [][]plan.Ins, behind []plan.Ins) []plan.Ins {
	out := slices.Clone(ahead)
	for _, part := range parts {
		place := len(out) + len(part)
		out = append(out, part...)
		out[place-len(part)].B = place
	}
	return append(out, behind...)
}

// lowerAgain tells the block of a good table's type.
func lowerAgain(x api.Type) plan.Block {
	if x.Enum {
		var numbers []int
		for _, s := range x.Symbols {
			numbers = append(numbers, s.Number)
		}
		slices.Sort(numbers)
		var b plan.Block
		for _, n := range numbers {
			b.Rows = append(b.Rows, plan.Line{Tag: n})
		}
		return b
	}
	var dec, enc [][]plan.Ins
	for _, f := range x.Fields {
		dec = append(dec, readAgain(x, f)...)
		enc = append(enc, writeAgain(f))
	}
	return plan.Block{Dec: joined(steps("Tag"), dec, steps("Keep; Go 0")), Enc: joined(nil, enc, steps("Rest; End"))}
}

// readAgain tells a part for each wire kind that a field takes.
func readAgain(x api.Type, f api.FieldType) [][]plan.Ins {
	isList := f.Label == api.Repeated || f.Label == api.Packed
	own := samples.Wire(f.Kind)
	if f.Label == api.Map {
		own = api.Chunk
	}
	parts := [][]plan.Ins{steps(fmt.Sprintf("Case %d 0; %s; Go 0", 8*f.Number+own, followAgain(x, f)))}
	if isList && own != api.Chunk {
		symbols := 0
		if f.Kind == api.Enum {
			symbols = 1 + f.Ref
		}
		parts = append(parts, steps(fmt.Sprintf("Case %d 0; Row %d %d %d; Go 0", 8*f.Number+api.Chunk, f.Number, f.Kind, symbols)))
	}
	return parts
}

// followAgain tells what is done with a value.
func followAgain(x api.Type, f api.FieldType) string {
	var members strings.Builder
	for n := range x.Fields {
		if g := x.Fields[n]; f.Label == api.Member && g.Label == api.Member && g.Oneof == f.Oneof {
			fmt.Fprintf(&members, "Clear %d; ", g.Number)
		}
	}
	if f.Label == api.Map {
		return fmt.Sprintf("Pair %d %d %d %d", f.Number, f.Key, f.Kind, f.Ref)
	}
	if f.Kind == api.Message {
		way := map[int]int{api.Optional: 0, api.Repeated: 1, api.Member: 2}[f.Label]
		return members.String() + fmt.Sprintf("Msg %d %d %d", f.Number, f.Ref, way)
	}
	text := fmt.Sprintf("Read %d; ", f.Kind)
	if f.Kind == api.Enum {
		text += fmt.Sprintf("Sym %d; ", f.Ref)
	}
	put := map[int]string{api.Plain: "Set", api.Optional: "Set", api.Member: "Set", api.Repeated: "Add", api.Packed: "Add"}[f.Label]
	return text + members.String() + fmt.Sprintf("%s %d", put, f.Number)
}

func writeAgain(f api.FieldType) []plan.Ins {
	tag := 8*f.Number + samples.Wire(f.Kind)
	switch f.Label {
	case api.Packed, api.Map:
		tag = 8*f.Number + api.Chunk
	}
	value := fmt.Sprintf("Put %d; Val %d", tag, f.Kind)
	if f.Kind == api.Message {
		value = fmt.Sprintf("Put %d; Sub %d", tag, f.Ref)
	}
	text := map[int]string{
		api.Plain: fmt.Sprintf("Has %d 0 %d; %s", f.Number, f.Kind, value), api.Optional: fmt.Sprintf("Has %d 0 0; %s", f.Number, value), api.Member: fmt.Sprintf("Has %d 0 0; %s", f.Number, value),
		api.Repeated: fmt.Sprintf("Has %d 0 0; Each %d %d %d", f.Number, tag, f.Kind, f.Ref), api.Packed: fmt.Sprintf("Has %d 0 0; Run %d %d", f.Number, tag, f.Kind),
		api.Map: fmt.Sprintf("Has %d 0 0; Pairs %d %d %d %d", f.Number, tag, f.Key, f.Kind, f.Ref),
	}[f.Label]
	return steps(text)
}

// TestP13_1Again has many good tables.
func TestP13_1Again(t *testing.T) {
	m := samples.New(1311)
	for range 3000 {
		x := samples.Pick(m, m.Rich(), m.Table())
		for i, y := range x.Types {
			lookAtType(t, "by chance", x, i, lowerAgain(y))
		}
	}
	for _, x := range []api.Table{em(), wide(), refs(), full()} {
		for i, y := range x.Types {
			lookAtType(t, "by hand", x, i, lowerAgain(y))
		}
	}
}

// forms tells of each operation, in order, of which sort its numbers are; what is not told is 0.
var forms = strings.Split(`Tag
Case tag on
Jump on
Go any
Read single
Sym enum
Set field
Add field
Clear field
Msg field message way
Row field numeric row
Pair field key kind block
Keep
ReadSet single field
ReadAdd single field
Has field on plain
Put tag
Val single
Sub message
Each tag kind block
Run tag numeric
Pairs tag key kind block
Rest
End
PutVal tag single`, "\n")

// seen is a step where it stands.
type seen struct {
	p         plan.Program
	at, count int
	numbers   [4]int
}

// isSort tells whether the number i of a step is of a sort.
func (s seen) isSort(sort string, i int) bool {
	n := s.numbers[i]
	name := "none"
	if n >= 1 && n <= len(kinds) {
		name = kinds[n-1]
	}
	switch sort {
	case "": // not named
		return n == 0
	case "tag":
		return tagAgain(n)
	case "on":
		return n > s.at && n < s.count
	case "any":
		return n == 0 || n > s.at && n < s.count
	case "field":
		return n > 0 && n < 1<<29
	case "way":
		return n == 0 || n == 1 || n == 2
	case "plain":
		return n == 0 || n > 0 && n < 17
	case "single":
		return name != "none" && name != "Message"
	case "kind":
		return name != "none"
	case "numeric":
		return name != "none" && !isIn(name, "String Bytes Message")
	case "key":
		return isIn(name, "Bool Int32 Int64 Uint32 Uint64 Sint32 Sint64 Fixed32 Fixed64 Sfixed32 Sfixed64 String")
	case "enum", "message":
		return n >= 0 && n < len(s.p.Blocks) && sortOf(s.p.Blocks[n]) == sort
	}
	return s.isBlock(sort, n, s.numbers[i-1])
}

func isIn(word, words string) bool { return slices.Contains(strings.Fields(words), word) }

// isBlock tells it of a block by the kind ahead of it.
func (s seen) isBlock(sort string, n, kind int) bool {
	if sort == "row" && kind == api.Enum {
		n-- // below 0, if there is none
	}
	of := map[int]string{api.Enum: "enum", api.Message: "message"}[kind]
	if of == "" {
		return n == 0
	}
	return n >= 0 && n < len(s.p.Blocks) && sortOf(s.p.Blocks[n]) == of
}

func sortOf(b plan.Block) string {
	if len(b.Dec) == 0 && len(b.Enc) == 0 {
		return "enum"
	}
	return "message"
}

func tagAgain(n int) bool {
	return n >= 8 && n < 1<<32 && strings.Contains("0125", fmt.Sprint(n%8))
}

// validAgain tells what Valid must tell.
func validAgain(p plan.Program) bool {
	if len(p.Blocks) > 128 {
		return false
	}
	for _, b := range p.Blocks {
		if !risingAgain(b.Rows) || sortOf(b) == "enum" && !enumAgain(b.Rows) || sortOf(b) == "message" && !messageAgain(p, b) {
			return false
		}
	}
	return true
}

func risingAgain(l []plan.Line) bool {
	for i := range l {
		for j := range i {
			if l[j].Tag >= l[i].Tag {
				return false
			}
		}
	}
	return true
}

func enumAgain(l []plan.Line) bool {
	for _, r := range l {
		if r.To != 0 || r.Tag < 0 || r.Tag >= 1<<31 {
			return false
		}
	}
	return len(l) >= 1 && len(l) <= 128
}

func messageAgain(p plan.Program, b plan.Block) bool {
	if len(b.Dec) == 0 || len(b.Enc) == 0 || !stepsAgain(p, b.Dec, 1, plan.ReadAdd) || !stepsAgain(p, b.Enc, plan.Has, plan.PutVal) {
		return false
	}
	tags, ends, jumps := placesOf(b.Dec, plan.Tag), placesOf(b.Enc, plan.End), placesOf(b.Dec, plan.Jump)
	if !slices.Equal(tags, []int{0}) || !slices.Equal(ends, []int{len(b.Enc) - 1}) || b.Dec[len(b.Dec)-1].Op != plan.Go || (len(jumps) == 0) != (len(b.Rows) == 0) {
		return false
	}
	for _, r := range b.Rows {
		if !tagAgain(r.Tag) || r.To < 1 || r.To >= len(b.Dec) || r.To <= slices.Max(jumps) {
			return false
		}
	}
	return true
}

func placesOf(l []plan.Ins, op int) []int {
	var out []int
	for at, s := range l {
		if s.Op == op {
			out = append(out, at)
		}
	}
	return out
}

func stepsAgain(p plan.Program, l []plan.Ins, first, last int) bool {
	for at, s := range l {
		if s.Op < first || s.Op > last {
			return false
		}
		here := seen{p, at, len(l), [4]int{s.A, s.B, s.C, s.D}}
		words := append(strings.Fields(forms[s.Op-1])[1:], "", "", "", "")
		for i := range 4 {
			if !here.isSort(words[i], i) {
				return false
			}
		}
	}
	return true
}

func lookAtValidAgain(t *testing.T, p plan.Program) bool {
	t.Helper()
	got, want := plan.Valid(p), validAgain(p)
	if got != want {
		t.Errorf("Valid is %v, want %v: %s", got, want, brief(p))
	}
	return got
}

// TestP13_3Again has programs by chance: valid ones, those with a few things changed, and any.
func TestP13_3Again(t *testing.T) {
	m := samples.New(1331)
	valid, others := 0, 0
	for range 12000 {
		p := samples.Pick(m, m.Program(), m.Program(), lowered(t, m.Table()), m.WildProgram(), rich())
		for range 1 + m.Below(3) {
			if lookAtValidAgain(t, p) {
				valid++
			} else {
				others++
			}
			p = m.BentProgram(p)
		}
	}
	if valid < 5000 || others < 5000 {
		t.Errorf("%d are valid, %d are not", valid, others)
	}
}

// TestP13_3EachNumber changes each number at each place of a program that has all operations, to each of many.
func TestP13_3EachNumber(t *testing.T) {
	p := rich()
	var numbers []*int
	for i := range p.Blocks {
		b := &p.Blocks[i]
		for _, l := range [][]plan.Ins{b.Dec, b.Enc} {
			for at := range l {
				numbers = append(numbers, &l[at].Op, &l[at].A, &l[at].B, &l[at].C, &l[at].D)
			}
		}
		for at := range b.Rows {
			numbers = append(numbers, &b.Rows[at].Tag, &b.Rows[at].To)
		}
	}
	valid, others := 0, 0
	for _, n := range numbers {
		was := *n
		for _, to := range append(span(-2, 35), was-1, was+1, was+8, was-8, was+256, was+1<<32, 1<<29-1, 1<<29, 1<<31-1, 1<<31, 1<<32-3, 1<<32-1, 1<<32, -1<<63, 1<<63-1) {
			*n = to
			if lookAtValidAgain(t, p) {
				valid++
			} else {
				others++
			}
		}
		*n = was
	}
	if valid < 1000 || others < 5000 {
		t.Errorf("%d are valid, %d are not", valid, others)
	}
}

func span(from, to int) []int {
	var out []int
	for n := from; n < to; n++ {
		out = append(out, n)
	}
	return out
}

// TestP13_3Short has all programs of a message that are short enough, of steps without a number and with one.
func TestP13_3Short(t *testing.T) {
	var some []plan.Ins
	for op := range plan.PutVal + 2 {
		some = append(some, plan.Ins{Op: op}, plan.Ins{Op: op, A: 2})
	}
	for _, one := range some {
		for _, two := range some {
			for _, three := range append(some, plan.Ins{Op: plan.Go}) {
				l := []plan.Ins{one, two, three}
				for count := range 4 {
					lookAtValidAgain(t, plan.Program{Blocks: []plan.Block{{Dec: l[:count], Enc: steps("End")}}})
					lookAtValidAgain(t, plan.Program{Blocks: []plan.Block{{Dec: steps("Tag; Go 0"), Enc: l[:count]}}})
				}
				lookAtValidAgain(t, plan.Program{Blocks: []plan.Block{{Dec: l, Enc: steps("End"), Rows: rows("8 2")}}})
			}
		}
	}
}
