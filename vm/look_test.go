package vm_test

import (
	"bytes"
	"fmt"
	"slices"
	"testing"

	"cartouche/api"
	"cartouche/opt"
	"cartouche/plan"
	"cartouche/samples"
	"cartouche/vm"
)

var (
	em, wide              = samples.Small, samples.Wide
	num, str, in          = samples.Num, samples.Str, samples.In
	msg, field, pairs     = samples.Msg, samples.Field, samples.Pairs
	unknown, text, varint = samples.Unknown, samples.Chunk, samples.Varint
	told, shortly         = samples.Told, samples.Shortly
	steps, block          = samples.Steps, samples.Block
	ownWire, bare         = samples.Wire, samples.Bare
	all, digits, inside   = samples.Join, samples.Digits, samples.Inside
	tag, chunk            = samples.Tag, samples.Framed
)

// The blocks of the programs that some steps are laid in: those steps, an enum with 3 and 5, and a message (field 1 an Int32, field 2 one of its own).
const (
	tried = iota
	symbols
	inner
)

// around is a program with a block beside the enum and the message.
func around(b plan.Block) plan.Program {
	return plan.Program{Blocks: []plan.Block{
		b,
		block("", "", "3 0; 5 0"),
		block("Tag; Case 8 5; Read Int32; Set 1; Go 0; Case 18 8; Msg 2 2 0; Go 0; Keep; Go 0", "Has 1 3 0; Put 8; Val Int32; Has 2 6 0; Put 18; Sub 2; Rest; End", ""),
	}}
}

// valid tells a program, if it is one.
func valid(t *testing.T, p plan.Program) plan.Program {
	t.Helper()
	if !plan.Valid(p) {
		t.Fatalf("the test itself is wrong: %s is not valid", brief(p))
	}
	return p
}

// reading is a program that reads by these steps, Tag ahead of them and Go 0 behind.
func reading(t *testing.T, between string) plan.Program {
	t.Helper()
	return jumping(t, between, "")
}

// jumping is such a program with rows.
func jumping(t *testing.T, between, rows string) plan.Program {
	t.Helper()
	return valid(t, around(block("Tag; "+between+"; Go 0", "End", rows)))
}

// writing is a program that writes by these steps, End behind them.
func writing(t *testing.T, ahead string) plan.Program {
	t.Helper()
	return valid(t, around(block("Tag; Go 0", ahead+"; End", "")))
}

// both are a program as it is, and optimised.
func both(t *testing.T, p plan.Program) []plan.Program {
	t.Helper()
	q, e := opt.Program(p)
	if e != api.OK {
		t.Fatalf("Program(%s): error %d", brief(p), e)
	}
	return []plan.Program{p, q}
}

func lowered(t *testing.T, x api.Table) plan.Program {
	t.Helper()
	p, e := plan.Lower(x)
	if e != api.OK {
		t.Fatalf("Lower(%s): error %d", brief(x), e)
	}
	return p
}

// brief tells the beginning of what may be long.
func brief(x any) string {
	s := fmt.Sprintf("%+v", x)
	return s[:min(len(s), 1000)]
}

func short(b []byte) string { return fmt.Sprintf("% d", b[:min(len(b), 100)]) }

// lookAtRead sees that bytes are read as a message, and in so many steps.
func lookAtRead(t *testing.T, p plan.Program, index int, b []byte, want api.Msg, steps int) {
	t.Helper()
	got, e := vm.Decode(p, index, b)
	if e != api.OK || told(got) != told(want) {
		t.Errorf("%s\nDecode(%s): %s, error %d; want %s", dec(p, index), short(b), shortly(got), e, shortly(want))
	}
	if n, e := vm.Steps(p, index, b); e != api.OK || n != steps {
		t.Errorf("%s\nSteps(%s): %d, error %d; want %d", dec(p, index), short(b), n, e, steps)
	}
}

// lookAtFault sees that both calls that read tell that error, and nothing beside.
func lookAtFault(t *testing.T, p plan.Program, index int, b []byte, want api.Errno) {
	t.Helper()
	got, e := vm.Decode(p, index, b)
	if e != want || told(got) != "{}" {
		t.Errorf("%s\nDecode(%s): %s, error %d; want error %d", dec(p, index), short(b), shortly(got), e, want)
	}
	if n, e := vm.Steps(p, index, b); e != want || n != 0 {
		t.Errorf("%s\nSteps(%s): %d, error %d; want error %d", dec(p, index), short(b), n, e, want)
	}
}

// lookAtWritten sees that a message has these bytes, by both calls that write.
func lookAtWritten(t *testing.T, p plan.Program, index int, m api.Msg, want []byte) {
	t.Helper()
	got, e := vm.Encode(p, index, m)
	if e != api.OK || !bytes.Equal(got, want) {
		t.Errorf("%s\nEncode(%s): %s, error %d; want %s", enc(p, index), shortly(m), short(got), e, short(want))
	}
	lookAtSize(t, p, index, m, len(want))
}

func lookAtSize(t *testing.T, p plan.Program, index int, m api.Msg, want int) {
	t.Helper()
	if n, e := vm.Size(p, index, m); e != api.OK || n != want {
		t.Errorf("%s\nSize(%s): %d, error %d; want %d", enc(p, index), shortly(m), n, e, want)
	}
}

// lookAtRefused sees that both calls that write tell that error, and nothing beside.
func lookAtRefused(t *testing.T, p plan.Program, index int, m api.Msg, want api.Errno) {
	t.Helper()
	lookAtNoBytes(t, p, index, m, want)
	lookAtNoSize(t, p, index, m, want)
}

func lookAtNoBytes(t *testing.T, p plan.Program, index int, m api.Msg, want api.Errno) {
	t.Helper()
	if b, e := vm.Encode(p, index, m); e != want || len(b) > 0 {
		t.Errorf("%s\nEncode(%s): %s, error %d; want error %d", enc(p, index), shortly(m), short(b), e, want)
	}
}

func lookAtNoSize(t *testing.T, p plan.Program, index int, m api.Msg, want api.Errno) {
	t.Helper()
	if n, e := vm.Size(p, index, m); e != want || n != 0 {
		t.Errorf("%s\nSize(%s): %d, error %d; want error %d", enc(p, index), shortly(m), n, e, want)
	}
}

// dec tells a block's reading steps, if there is such a block.
func dec(p plan.Program, index int) string {
	if index < 0 || index >= len(p.Blocks) {
		return fmt.Sprint("block ", index)
	}
	return named(p.Blocks[index].Dec) + fmt.Sprint(p.Blocks[index].Rows)
}

func enc(p plan.Program, index int) string {
	if index < 0 || index >= len(p.Blocks) {
		return fmt.Sprint("block ", index)
	}
	return named(p.Blocks[index].Enc)
}

// named tells the beginning of some steps by their operations' names.
func named(l []plan.Ins) string {
	out, names := "", samples.Operations()
	for _, s := range l[:min(len(l), 40)] {
		name := fmt.Sprint("operation ", s.Op)
		if s.Op >= 1 && s.Op <= len(names) {
			name = names[s.Op-1]
		}
		out += fmt.Sprint(name, " ", s.A, " ", s.B, " ", s.C, " ", s.D, "; ")
	}
	return out
}

// joined tells a message with fields and unknown entries.
func joined(m api.Msg, l ...api.Entry) api.Msg {
	return api.Msg{Fields: m.Fields, Unknown: slices.Concat(m.Unknown, l)}
}
