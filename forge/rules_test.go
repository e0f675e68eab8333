package forge_test

import (
	"bytes"
	"math"
	"slices"
	"strings"
	"sync"
	"testing"
	"time"

	"cartouche/api"
	"cartouche/forge"
	"cartouche/plan"
	"cartouche/samples"
)

// lookAtNone sees that what is no forge, or none of a table, is asked as one without types.
func lookAtNone(t *testing.T, what string, f *forge.Forge) {
	t.Helper()
	m := samples.New(1781)
	for range 200 {
		c := someCall(m, em())
		a := newAgain(t, api.Table{})
		if got, want := c.ask(f), a.tell(c); got != want {
			t.Errorf("%s: %s is %s, want %s", what, brief(c), brief(got), brief(want))
		}
	}
	lookAtCounts(t, what, f, 0, 0)
}

// TestR1None asks what New and Of tell beside an error, and a forge that nobody made.
func TestR1None(t *testing.T) {
	f, _ := forge.New(one("message"))
	lookAtNone(t, "no forge", f)
	f, _ = forge.Of(samples.WrongTables()[0].Table)
	lookAtNone(t, "no good table", f)
	lookAtNone(t, "one that nobody made", &forge.Forge{})
	lookAtNone(t, "one without types", of(t, api.Table{}))
}

// TestR1R2 has any tables, any indices, any workers, any names, any bytes and any messages: none panics, each call ends, and beside an error each answer is zero.
func TestR1R2(t *testing.T) {
	m := samples.New(1782)
	good := 0
	for range 2500 {
		f, e := forge.Of(samples.Pick(m, m.WildTable, m.BentTable, m.Table)())
		if e != api.OK && (e != api.ErrArg || f != nil) {
			t.Errorf("Of: %v, error %d", f, e)
		}
		if e == api.OK {
			good++
		}
		for range 4 {
			c := someCall(m, wide())
			c.m, c.name = samples.Pick(m, c.m, m.Wild(3)), samples.Pick(m, c.name, "M", "T0", "W")
			c.list = append(c.list, samples.Pick(m, -1, 1<<40, 0, 1, m.Near(3)))
			c.index, c.workers = samples.Pick(m, c.index, m.Near(2)), samples.Pick(m, c.workers, m.Near(64))
			lookAtZero(t, f, c)
			c.ask(f)
		}
	}
	if good < 600 {
		t.Errorf("%d tables are good", good)
	}
}

// lookAtZero sees that beside an error nothing else is told.
func lookAtZero(t *testing.T, f *forge.Forge, c call) {
	t.Helper()
	if b, e := f.Block(c.index); e != api.OK && (e != api.ErrArg || !isNoBlock(b)) {
		t.Errorf("Block(%d): %s, error %d", c.index, brief(b), e)
	}
	if n, e := f.Warm(c.list, c.workers); e != api.OK && (e != api.ErrArg || n != 0) {
		t.Errorf("Warm(%v, %d): %d, error %d", c.list, c.workers, n, e)
	}
	if m, e := f.Decode(c.name, c.b); e != api.OK && told(m) != told(msg()) {
		t.Errorf("Decode(%q, %v): %s, error %d", c.name, c.b, shortly(m), e)
	}
	if b, e := f.Encode(c.name, c.m); e != api.OK && len(b) > 0 {
		t.Errorf("Encode(%q, %s): %v, error %d", c.name, shortly(c.m), b, e)
	}
	l, e := f.DecodeAll(c.name, c.all, c.workers)
	if e != api.OK && (e != api.ErrNone && e != api.ErrArg || len(l) > 0) {
		t.Errorf("DecodeAll(%q, %v, %d): %s, error %d", c.name, c.all, c.workers, toldAll(l), e)
	}
	for _, a := range l {
		if a.E != api.OK && told(a.M) != told(msg()) {
			t.Errorf("DecodeAll(%q, %v, %d): %s", c.name, c.all, c.workers, toldAll(l))
		}
	}
}

// TestR1Big has the greatest table, very long lists, names and messages: each call ends soon.
func TestR1Big(t *testing.T) {
	const many = 200000
	begin := time.Now()
	x := full()
	f := of(t, x)
	lookAtWarm(t, f, slices.Repeat(numbers(x), 1000), 64, len(x.Types), api.OK)
	lookAtAll(t, f, "M127", make([][]byte, 500), 64, make([]answer, 500), api.OK)
	long := strings.Repeat("M", 1<<24)
	lookAtDecode(t, f, long, make([]byte, 1<<24), msg(), api.ErrNone)
	lookAtDecode(t, f, "M0", make([]byte, 1<<24), msg(), api.ErrTooBig)
	lookAtCounts(t, "the greatest table", f, len(x.Types), 501)
	g := of(t, em())
	l, wants := slices.Repeat([][]byte{{8, 1}, {8}, nil}, many/3), slices.Repeat([]answer{{M: msg(field(1, num(1)))}, {E: api.ErrEnd}, {}}, many/3)
	for _, workers := range []int{1, 7, 64} {
		lookAtAll(t, g, "M", l, workers, wants, api.OK)
	}
	lookAtEncode(t, g, "M", samples.Nested(3, 1<<15, msg()), nil, api.ErrTooDeep)
	lookAtEncode(t, g, "M", samples.Nested(3, 1<<15, msg(field(9))), nil, api.ErrType)
	lookAtEncode(t, g, "M", msg(field(2, make([]api.Val, many)...)), nil, api.ErrTooBig)
	lookAtEncode(t, g, "M", msg(make([]api.Field, many)...), nil, api.ErrType)
	h, _ := forge.Of(api.Table{Types: make([]api.Type, many)})
	lookAtNone(t, "too many types", h)
	if spent := time.Since(begin); spent > 40*time.Second {
		t.Errorf("all that took %v", spent)
	}
}

// TestR3Refused sees that what was refused is not to be told by later calls: a forge that was asked much that is refused tells what a new one tells.
func TestR3Refused(t *testing.T) {
	m := samples.New(1783)
	for range 300 {
		x := samples.Pick(m, m.Table, em, wide)()
		f, a := of(t, x), newAgain(t, x)
		f.Block(len(x.Types))
		f.Block(-1)
		f.Warm(append(numbers(x), len(x.Types)), 3)
		f.Warm(numbers(x), 0)
		f.Decode("none", nil)
		f.Encode("none", msg())
		f.Encode(x.Types[messages(x)[0]].Name, msg(field(0)))
		f.DecodeAll("none", [][]byte{nil}, 1)
		f.DecodeAll(x.Types[messages(x)[0]].Name, [][]byte{nil}, 65)
		lookAtCounts(t, "all refused", f, 0, 0)
		for range 5 {
			c := someCall(m, x)
			if got, want := c.ask(f), a.tell(c); got != want {
				t.Errorf("%s: %s, want %s", brief(c), brief(got), brief(want))
			}
		}
	}
}

// wholly tells all that stands in a call's arguments, spare room too.
func (c call) wholly() string {
	out := samples.Wholly(c.m) + brief(c.list[:cap(c.list)]) + string(c.b[:cap(c.b)])
	for _, b := range c.all[:cap(c.all)] {
		out += "," + string(b[:cap(b)])
	}
	return out
}

// roomy gives all of a call's lists spare room.
func (c call) roomy() call {
	samples.Roomy(&c.list, 7)
	for i, b := range c.all {
		c.all[i] = samples.Spare(b)
	}
	samples.Roomy(&c.all, []byte{7})
	c.b, c.m = samples.Spare(c.b), samples.WithRoom(c.m)
	return c
}

// TestR4Arguments sees that nothing that is handed in is changed, spare room too, and nothing kept: it may be written over.
func TestR4Arguments(t *testing.T) {
	m := samples.New(1784)
	for range 900 {
		x := samples.Pick(m, m.Table, m.Rich, em, wide)()
		given := samples.RoomyTable(x)
		before := samples.WhollyTable(given)
		f, a := of(t, given), newAgain(t, x)
		for range 4 {
			c := someCall(m, x).roomy()
			was := c.wholly()
			if got, want := c.ask(f), a.tell(c); got != want {
				t.Errorf("%s: %s, want %s", brief(c), brief(got), brief(want))
			}
			if c.wholly() != was {
				t.Errorf("%s: changed", brief(c))
			}
			if samples.WhollyTable(given) != before {
				t.Errorf("%s: the table is changed", brief(c))
			}
			spoilTable(given)
			before = samples.WhollyTable(given)
		}
	}
}

// spoilTable writes over all of a table's lists, spare room too.
func spoilTable(x api.Table) {
	samples.Listed{
		Types:   func(l *[]api.Type) {},
		Fields:  func(l *[]api.FieldType) { clear((*l)[:cap(*l)]) },
		Oneofs:  func(l *[]string) { clear((*l)[:cap(*l)]) },
		Symbols: func(l *[]api.Symbol) { clear((*l)[:cap(*l)]) },
		Ranges:  func(l *[]api.Range) { clear((*l)[:cap(*l)]) },
	}.Table(&x)
	clear(x.Types[:cap(x.Types)])
}

// spoilMessage writes over all of a message's lists, spare room too.
func spoilMessage(m api.Msg) {
	samples.Touch{
		Bytes:  func(l *[]byte) { clear((*l)[:cap(*l)]) },
		Vals:   func(l *[]api.Val) {},
		Msgs:   func(l *[]api.Msg) {},
		Fields: func(l *[]api.Field) {},
		Rest:   func(l *[]api.Entry) {},
	}.Message(&m)
	clear(m.Fields[:cap(m.Fields)])
	clear(m.Unknown[:cap(m.Unknown)])
}

// TestR4AnswersAreNew writes over all that a forge told: it tells the same as before.
func TestR4AnswersAreNew(t *testing.T) {
	m := samples.New(1785)
	for range 600 {
		x := samples.Pick(m, m.Table, em, wide)()
		f, index := of(t, x), samples.Pick(m, messages(x)...)
		name, b, a := x.Types[index].Name, m.Bytes(x, index, 3), m.Message(x, index, 3)
		was := bytes.Clone(b)
		var first []string
		for round := range 3 {
			tab, block, p, q := f.Table(), blockOf(f, index), f.Program(), f.Program()
			read, _ := f.Decode(name, b)
			written, _ := f.Encode(name, a)
			l, _ := f.DecodeAll(name, [][]byte{b, b, b}, 2)
			if samples.SharesTable(tab, f.Table(), x) || samples.SharesProgram(p, q, block) || samples.SharesProgram(q) || samples.SharesProgram(block, blockOf(f, index)) {
				t.Errorf("%s: lists share memory", brief(x))
			}
			if samples.Shares(read, l[0].M, l[1].M, l[2].M, a) || samples.Shares(l[0].M, l[1].M, l[2].M) || samples.Shares(l[1].M, l[2].M) {
				t.Errorf("%s: messages share memory", brief(b))
			}
			now := []string{samples.WhollyTable(samples.CopyTable(tab)), toldBlocks(block.Blocks), toldBlocks(p.Blocks), told(read), string(written), toldAll(l)}
			if round > 0 && !slices.Equal(now, first) {
				t.Errorf("%s: %s, want %s", brief(x), brief(now), brief(first))
			}
			first = now
			spoilTable(tab)
			samples.SpoilProgram(p)
			samples.SpoilProgram(block)
			clear(p.Blocks)
			clear(written[:cap(written)])
			spoilMessage(read)
			for i := range l {
				spoilMessage(l[i].M)
			}
			clear(l[:cap(l)])
			if !bytes.Equal(b, was) {
				t.Errorf("%v: spoiled", brief(was))
			}
		}
	}
}

// blockOf tells a type's block as a program.
func blockOf(f *forge.Forge, index int) plan.Program {
	b, _ := f.Block(index)
	return plan.Program{Blocks: []plan.Block{b}}
}

// TestR4EmptyLists sees that nil and an empty list are one.
func TestR4EmptyLists(t *testing.T) {
	m := samples.New(1786)
	for range 1000 {
		x := samples.Pick(m, m.Table, m.Rich, em, wide)()
		f, g := of(t, x), of(t, samples.EmptiedTable(x))
		for range 4 {
			c := someCall(m, x)
			d := c
			if d.m = samples.Emptied(c.m); len(c.b) == 0 {
				d.b = []byte{}
			}
			if len(c.all) == 0 {
				d.all = [][]byte{}
			}
			if len(c.list) == 0 {
				d.list = []int{}
			}
			if one, two := c.ask(f), d.ask(g); one != two {
				t.Errorf("%s with empty lists: %s, want %s", brief(c), brief(two), brief(one))
			}
		}
	}
}

// TestR5Many makes forges, and asks them, from many goroutines at a time: each is told what one alone is told.
func TestR5Many(t *testing.T) {
	m := samples.New(1787)
	type row struct {
		x     api.Table
		calls []call
		wants []string
	}
	var all []row
	for range 30 {
		r := row{x: samples.Pick(m, m.Table, m.Rich, em, wide)()}
		a := newAgain(t, r.x)
		for range 8 {
			c := someCall(m, r.x)
			r.calls, r.wants = append(r.calls, c), append(r.wants, a.tell(c))
		}
		all = append(all, r)
	}
	var group sync.WaitGroup
	for worker := range 8 {
		group.Go(func() {
			for step := range 60 {
				r := all[(7*worker+step)%len(all)]
				f, e := forge.Of(r.x)
				for i, c := range r.calls {
					if got := c.ask(f); e != api.OK || got != r.wants[i] {
						t.Errorf("%s: %s, want %s", brief(c), brief(got), brief(r.wants[i]))
					}
				}
			}
		})
	}
	group.Wait()
}

// TestR6First has calls with more than one thing that is refused: the one that the chapter names first is told.
func TestR6First(t *testing.T) {
	f := of(t, em())
	lookAtAll(t, f, "E", nil, 0, nil, api.ErrNone)
	lookAtAll(t, f, "N", nil, math.MinInt, nil, api.ErrNone)
	lookAtAll(t, f, "M", [][]byte{{8}}, 0, nil, api.ErrArg)
	lookAtEncode(t, f, "E", msg(field(9)), nil, api.ErrNone)
	lookAtEncode(t, f, "M", samples.Nested(3, 20, msg(field(9))), nil, api.ErrType)
	lookAtDecode(t, f, "E", make([]byte, api.MaxMessage+1), msg(), api.ErrNone)
	lookAtWarm(t, f, []int{-1}, 0, 0, api.ErrArg)
	lookAtCounts(t, "all refused", f, 0, 0)
}
