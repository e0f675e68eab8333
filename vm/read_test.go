package vm_test

import (
	"bytes"
	"math"
	"strconv"
	"testing"

	"cartouche/api"
	"cartouche/plan"
	"cartouche/samples"
	"cartouche/vm"
)

// longest is a varint with all bits.
var longest = digits(math.MaxUint64)

// endless is a varint that is none.
var endless = bytes.Repeat([]byte{255}, 10)

func TestP15_1Examples(t *testing.T) {
	for _, p := range both(t, lowered(t, em())) {
		if m, e := vm.Decode(p, 1, []byte{8, 5}); e != api.OK || told(m) != told(msg(field(1, num(5)))) {
			t.Errorf("%s, error %d", told(m), e)
		}
		lookAtFault(t, p, 0, nil, api.ErrArg)
	}
	lookAtFault(t, plan.Program{}, 0, nil, api.ErrArg)
}

// TestP15_1Refused: a program that is not valid is told ahead of an index that is none, and both ahead of too many bytes, and those ahead of all that is in them.
func TestP15_1Refused(t *testing.T) {
	wrong := reading(t, "Keep")
	wrong.Blocks[symbols].Rows[0].To = 1
	many := bytes.Repeat([]byte{11}, api.MaxMessage+1)
	for _, b := range [][]byte{nil, {11}, many} {
		for _, index := range []int{tried, symbols, inner, 3, -1, math.MinInt, math.MaxInt} {
			lookAtFault(t, wrong, index, b, api.ErrProgram)
			if index != tried && index != inner {
				lookAtFault(t, reading(t, "Keep"), index, b, api.ErrArg)
			}
		}
	}
	for _, index := range []int{tried, inner} {
		p := reading(t, "Keep")
		lookAtFault(t, p, index, many, api.ErrTooBig)
		lookAtFault(t, p, index, many[1:], api.ErrKind)
		lookAtFault(t, p, index, make([]byte, api.MaxMessage+1), api.ErrTooBig)
	}
	p := plan.Program{Blocks: make([]plan.Block, api.MaxTypes+1)}
	for i := range p.Blocks {
		p.Blocks[i] = block("Tag; Go 0", "End", "")
	}
	lookAtFault(t, p, 0, nil, api.ErrProgram)
	p.Blocks = p.Blocks[1:]
	lookAtRead(t, p, api.MaxTypes-1, nil, msg(), 1)
	lookAtFault(t, p, api.MaxTypes, nil, api.ErrArg)
}

// read is bytes, what becomes of them, and in how many steps.
type read struct {
	between string
	b       []byte
	want    api.Msg
	steps   int
}

func lookAtReads(t *testing.T, l []read) {
	t.Helper()
	for _, x := range l {
		lookAtRead(t, reading(t, x.between), tried, x.b, x.want, x.steps)
	}
}

// fault is bytes, and why they can't be read.
type fault struct {
	between string
	b       []byte
	want    api.Errno
}

func lookAtFaults(t *testing.T, l []fault) {
	t.Helper()
	for _, x := range l {
		lookAtFault(t, reading(t, x.between), tried, x.b, x.want)
	}
}

func TestP15_1Tag(t *testing.T) {
	lookAtReads(t, []read{
		{"Go 0", nil, msg(), 1}, {"Go 0", []byte{8, 16, 26}, msg(), 7}, {"Set 1", nil, msg(), 1}, {"Go 0", []byte{136, 128, 0}, msg(), 3}, {"Case 8 3; Set 1", []byte{136, 128, 0}, msg(field(1, num(0))), 5},
		{"Go 0", tag(api.MaxNumber, api.Fix32), msg(), 3}, {"Case 4294967293 3; Set 1", tag(api.MaxNumber, api.Fix32), msg(field(1, num(0))), 5},
	})
	lookAtFaults(t, []fault{
		{"Go 0", []byte{128}, api.ErrEnd}, {"Go 0", endless, api.ErrVarint}, {"Go 0", []byte{0}, api.ErrNumber}, {"Go 0", []byte{7}, api.ErrNumber}, {"Go 0", []byte{8, 11}, api.ErrKind}, {"Go 0", tag(1<<29, 0), api.ErrNumber}, {"Go 0", tag(1, 7), api.ErrKind},
		{"Go 0", longest, api.ErrNumber}, {"Keep", []byte{8, 1, 12}, api.ErrKind},
	})
}

func TestP15_1Case(t *testing.T) {
	one, two := field(1, num(0)), field(2, num(0))
	const steps = "Case 16 3; Set 1; Set 2"
	lookAtReads(t, []read{{steps, []byte{16}, msg(one, two), 6}, {steps, []byte{8}, msg(two), 5}, {steps, []byte{17}, msg(two), 5}, {steps, []byte{24, 16, 24}, msg(one, two), 4 + 5 + 4 + 1}, {"Case 16 4; Case 16 4; Set 1", []byte{16}, msg(one), 6}})
}

func TestP15_1Jump(t *testing.T) {
	one, two, three := field(1, num(0)), field(2, num(0)), field(3, num(0))
	p := jumping(t, "Jump 6; Set 1; Go 0; Set 2; Go 0; Set 3", "8 2; 9 4; 4294967293 2")
	for _, x := range []read{
		{"", []byte{8}, msg(one), 5}, {"", []byte{9}, msg(two), 5}, {"", tag(api.MaxNumber, api.Fix32), msg(one), 5}, {"", []byte{10}, msg(three), 5}, {"", []byte{16}, msg(three), 5}, {"", []byte{8, 9, 13}, msg(one, two, three), 13},
	} {
		lookAtRead(t, p, tried, x.b, x.want, x.steps)
	}
	p = jumping(t, "Jump 2; Jump 4; Set 1; Set 2", "16 4") // both have the rows, each has its own place for all others
	lookAtRead(t, p, tried, []byte{16}, msg(two), 5)
	lookAtRead(t, p, tried, []byte{8}, msg(two), 6)
	var rows string
	for number := 1; number <= 200; number++ { // found wherever it stands
		rows += strconv.Itoa(number*8+api.Chunk) + " 3; "
	}
	p = jumping(t, "Jump 2; Go 4; Set 1", rows)
	for number := range 400 {
		want := msg()
		if number%2 == 1 {
			want = msg(one)
		}
		lookAtRead(t, p, tried, tag(1+number/2, number%2*api.Chunk), want, 5)
	}
}

func TestP15_1Go(t *testing.T) {
	lookAtReads(t, []read{{"Go 3; Set 1; Set 2", []byte{8}, msg(field(2, num(0))), 5}, {"Set 1; Go 0; Set 2", []byte{8}, msg(field(1, num(0))), 4}, {"Go 4; Set 1; Set 2", []byte{8, 8}, msg(), 7}})
}

// TestP15_1Read has values of each kind, and those that do not fit.
func TestP15_1Read(t *testing.T) {
	for kind := api.Bool; kind <= api.Enum; kind++ {
		good, bad := samples.Values(kind)
		p := reading(t, "Read "+samples.Kinds()[kind-1]+"; Add 1")
		for _, v := range good {
			lookAtRead(t, p, tried, all([]byte{8}, bare(kind, v)), msg(field(1, v)), 5)
			lookAtRead(t, p, tried, all([]byte{8}, bare(kind, v), []byte{18}, bare(kind, good[0])), msg(field(1, v, good[0])), 9)
			lookAtFault(t, p, tried, all([]byte{8}, bare(kind, v))[:len(bare(kind, v))], api.ErrEnd)
		}
		for _, v := range bad {
			switch {
			case kind == api.String && v.N == 0 && len(v.M) == 0:
				lookAtFault(t, p, tried, all([]byte{8}, bare(kind, v)), api.ErrText)
			case kind < api.Enum && ownWire(kind) == api.Varint && len(v.B)+len(v.M) == 0:
				lookAtFault(t, p, tried, all([]byte{8}, bare(kind, v)), api.ErrRange)
			}
		}
	}
	lookAtFaults(t, []fault{
		{"Read Enum", all([]byte{8}, digits(1<<31)), api.ErrRange}, {"Read Enum", all([]byte{8}, longest), api.ErrRange}, {"Read Int64", all([]byte{8}, endless), api.ErrVarint}, {"Read Bytes", []byte{8, 1}, api.ErrEnd}, {"Read Bytes", all([]byte{8}, longest), api.ErrEnd},
		{"Read String", []byte{8, 1, 255}, api.ErrText}, {"Read Bool; Read Bool", []byte{8, 1}, api.ErrEnd}, {"Read Bool", []byte{8, 1, 1}, api.ErrNumber},
	})
	// An enum's number is read whatever its rows are, and the tag's wire kind is not asked.
	lookAtReads(t, []read{{"Read Enum; Set 1", []byte{8, 4}, msg(field(1, num(4))), 5}, {"Read Fixed32; Set 1", []byte{8, 1, 0, 0, 0}, msg(field(1, num(1))), 5}, {"Read Bytes; Set 1", []byte{13, 1, 9}, msg(field(1, str("\t"))), 5}})
}

// TestP15_1Value: the machine's value is none at first, in each message, and is changed by what reads one alone, and kept from entry to entry.
func TestP15_1Value(t *testing.T) {
	five := num(5)
	lookAtReads(t, []read{
		{"Add 1", []byte{8}, msg(field(1, num(0))), 4}, {"Set 1; Read Int32", []byte{8, 5}, msg(field(1, num(0))), 5}, {"Set 1; Read Int32", []byte{8, 5, 8, 6}, msg(field(1, five)), 9}, {"Set 1; Read String; Add 1", []byte{8, 1, 97}, msg(field(1, num(0), str("a"))), 6},
		{"Case 8 4; Read Int32; Go 0; Add 1", []byte{8, 5, 16, 16}, msg(field(1, five, five)), 4 + 4 + 4 + 1}, {"Read Bool; Read Bytes; Set 1; Read Int32; Set 2", []byte{8, 1, 2, 97, 98, 7}, msg(field(1, str("ab")), field(2, num(7))), 8},
		{"Read Int32; Msg 2 2 0; Row 3 Int32 0; Pair 4 Bool Int32 0; Keep; Clear 2; Sym 1; Set 1", []byte{8, 5, 2, 8, 9, 1, 8, 2, 16, 7, 6}, joined(msg(field(1, five), field(3, num(8)), pairs(4, num(0), num(7))), varint(1, 6)), 11 + 6},
		{"ReadSet Int32 2; Set 1", []byte{8, 5}, msg(field(1, five), field(2, five)), 5}, {"ReadAdd Int32 2; Set 1", []byte{8, 5}, msg(field(1, five), field(2, five)), 5},
	})
	within := valid(t, around(block("Tag; Case 8 5; Read Int32; Set 1; Go 0; Msg 2 0 0; Set 3; Go 0", "End", "")))
	lookAtRead(t, within, tried, []byte{8, 5, 18, 2, 18, 0}, msg(field(1, five), field(2, in(msg(field(2, in(msg())), field(3, num(0))))), field(3, five)), 5+5+5+1+1+1)
}

func TestP15_1Sym(t *testing.T) {
	const steps = "Read Int64; Sym 1; Add 1"
	for _, n := range []int64{0, 1, 2, 4, 6, -1, -3, 1<<32 + 3, 1<<32 + 5, 1<<31 + 3, math.MinInt64, math.MinInt64 + 3, math.MaxInt64} {
		lookAtFault(t, reading(t, steps), tried, all([]byte{8}, digits(uint64(n))), api.ErrSymbol)
		lookAtFault(t, reading(t, "Read Uint64; Sym 1; Add 1"), tried, all([]byte{8}, digits(uint64(n))), api.ErrSymbol)
	}
	lookAtReads(t, []read{{steps, []byte{8, 3}, msg(field(1, num(3))), 6}, {steps, []byte{8, 5, 8, 3}, msg(field(1, num(5), num(3))), 11}, {"Read Double; Sym 1", []byte{8, 3, 0, 0, 0, 0, 0, 0, 0}, msg(), 5}})
	lookAtFaults(t, []fault{{"Sym 1", []byte{8}, api.ErrSymbol}, {"Read String; Sym 1", []byte{8, 1, 97}, api.ErrSymbol}, {"Read Enum; Sym 1", []byte{8, 4}, api.ErrSymbol}, {"Read Enum; Sym 1", []byte{8, 128}, api.ErrEnd}})
	p := reading(t, "Read Bytes; Sym 1; Set 1")
	p.Blocks[symbols] = block("", "", "0 0; 2147483647 0")
	lookAtRead(t, p, tried, []byte{8, 1, 97}, msg(field(1, str("a"))), 6) // its N is 0
	p = reading(t, "Read Enum; Sym 1; Set 1")
	p.Blocks[symbols] = block("", "", "0 0; 2147483647 0")
	lookAtRead(t, p, tried, all([]byte{8}, digits(1<<31-1)), msg(field(1, num(1<<31-1))), 6)
	lookAtFault(t, p, tried, []byte{8, 1}, api.ErrSymbol)
}

func TestP15_1SetAddClear(t *testing.T) {
	one := num(1)
	lookAtReads(t, []read{
		{"Read Bool; Set 4", []byte{8, 1, 8, 0}, msg(field(4, num(0))), 9}, {"Read Bool; Set 4; Set 4", []byte{8, 1}, msg(field(4, one)), 6}, {"Read Bool; Add 4; Add 4; Set 4", []byte{8, 1}, msg(field(4, one)), 7}, {"Read Bool; Set 4; Add 4", []byte{8, 1}, msg(field(4, one, one)), 6},
		{"Row 4 Bool 0; Set 4", []byte{8, 2, 1, 1}, msg(field(4, num(0))), 5}, {"Row 4 Bool 0; Add 4", []byte{8, 2, 1, 1}, msg(field(4, one, one, num(0))), 5}, {"Row 4 Bool 0; Add 4", []byte{8, 0}, msg(field(4, num(0))), 5},
		{"Pair 4 Bool Bool 0; Set 4", []byte{8, 2, 8, 1}, msg(field(4, num(0))), 5}, {"Pair 4 Bool Bool 0; Add 4", []byte{8, 4, 8, 1, 16, 1}, msg(api.Field{Number: 4, Keys: []api.Val{one}, Vals: []api.Val{one, num(0)}}), 5},
		{"Msg 4 2 2; Set 4", []byte{8, 0}, msg(field(4, num(0))), 6}, {"Msg 4 2 2; Add 4", []byte{8, 0}, msg(field(4, in(msg()), num(0))), 6},
		{"Clear 4", []byte{8}, msg(), 4}, {"Set 4; Clear 4; Clear 4", []byte{8}, msg(), 6}, {"Set 3; Set 4; Set 5; Clear 4", []byte{8}, msg(field(3, num(0)), field(5, num(0))), 7}, {"Add 4; Clear 4; Add 4", []byte{8}, msg(field(4, num(0))), 6}, {"Set 4; Clear 3; Clear 5", []byte{8}, msg(field(4, num(0))), 6},
		{"Pair 4 Bool Bool 0; Clear 4; Add 4", []byte{8, 2, 8, 1}, msg(field(4, num(0))), 6}, {"Row 4 Bool 0; Clear 4", []byte{8, 0}, msg(), 5}, {"Set 4; Clear 4", []byte{8, 8, 8}, msg(), 13},
		{"ReadSet Bool 4", []byte{8, 1, 8, 0}, msg(field(4, num(0))), 7}, {"ReadAdd Bool 4", []byte{8, 1, 8, 0}, msg(field(4, one, num(0))), 7}, {"ReadAdd Bool 4; ReadSet Sint32 4", []byte{8, 1, 1}, msg(field(4, num(-1))), 5},
	})
	lookAtFaults(t, []fault{{"ReadSet Bool 4", []byte{8, 2}, api.ErrRange}, {"ReadAdd Bool 4", []byte{8, 2}, api.ErrRange}, {"ReadSet String 4", []byte{8, 1, 255}, api.ErrText}, {"ReadAdd Fixed32 4", []byte{8, 1, 0, 0}, api.ErrEnd}, {"ReadSet Int64 4", []byte{8}, api.ErrEnd}})
}

// TestP15_1Order: fields stand by rising numbers, in whatever order and by whichever step they come.
func TestP15_1Order(t *testing.T) {
	want := msg(field(1, num(0)), field(2, in(msg())), field(3), pairs(4, num(0), num(0)), field(5, num(0)), field(6, num(9)), field(7, num(8)), field(api.MaxNumber, num(0)))
	lookAtReads(t, []read{
		{"Set 536870911; Set 5; Pair 4 Bool Bool 0; Row 3 Bool 0; Msg 2 2 0; Add 1; ReadAdd Int32 7; ReadSet Int32 6", []byte{8, 0, 0, 0, 8, 9}, want, 12},
		{"Msg 2 2 1; Pair 4 Bool Bool 0; Add 536870911; Add 1; Row 3 Bool 0; Set 5; ReadSet Int32 6; ReadAdd Int32 7", []byte{8, 0, 0, 0, 9, 8}, want, 12},
	})
	lookAtRead(t, around(block("Tag; Case 8 3; Set 9; Case 16 5; Set 4; Case 24 7; Set 6; Go 0", "End", "")), tried, []byte{24, 8, 16}, msg(field(4, num(0)), field(6, num(0)), field(9, num(0))), 6+6+6+1)
}

func TestP15_1Keep(t *testing.T) {
	whole := []api.Entry{varint(1, math.MaxUint64), {Number: 1, Kind: api.Fix64, N: 1<<63 + 1}, text(1, "ab"), {Number: 1, Kind: api.Fix32, N: 1<<32 - 1}, text(api.MaxNumber, ""), varint(1, 0)}
	b := all([]byte{8}, longest, []byte{9, 1, 0, 0, 0, 0, 0, 0, 128}, []byte{10, 2, 97, 98}, []byte{13, 255, 255, 255, 255}, tag(api.MaxNumber, 2), []byte{0}, []byte{8, 128, 0})
	lookAtReads(t, []read{
		{"Keep", b, unknown(whole...), 3*len(whole) + 1}, {"Keep; Keep", []byte{8, 1, 2}, unknown(varint(1, 1), varint(1, 2)), 5}, {"Read Bool; Keep", []byte{26, 1, 1, 9}, unknown(text(3, "\t")), 5}, {"Keep; Set 1", []byte{8, 7}, joined(msg(field(1, num(0))), varint(1, 7)), 5},
		{"Msg 2 2 0; Keep", []byte{16, 0, 5}, joined(msg(field(2, in(msg()))), varint(2, 5)), 6},
	})
	for _, x := range [][]byte{{8}, {8, 128}, {9, 0, 0, 0, 0, 0, 0, 0}, {10}, {10, 1}, {13, 0, 0, 0}, all([]byte{10}, longest), {8, 1, 10, 3, 1, 1}} {
		lookAtFault(t, reading(t, "Keep"), tried, x, api.ErrEnd)
	}
	lookAtFault(t, reading(t, "Keep"), tried, all([]byte{8}, endless), api.ErrVarint)
	lookAtFault(t, reading(t, "Keep"), tried, all([]byte{10}, endless), api.ErrVarint)
}
