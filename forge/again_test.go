package forge_test

import (
	"fmt"
	"math"
	"testing"

	"cartouche/api"
	"cartouche/forge"
	"cartouche/interp"
	"cartouche/model"
	"cartouche/plan"
	"cartouche/samples"
)

// again is a second reading of the chapter: a forge that compiles nothing, but knows what it would have compiled, and reads and writes by the table.
type again struct {
	table  api.Table
	blocks []plan.Block
	done   map[int]int
	runs   int
}

func newAgain(t *testing.T, x api.Table) *again {
	t.Helper()
	return &again{table: x, blocks: better(t, x).Blocks, done: map[int]int{}}
}

// call is a call with its arguments.
type call struct {
	what    string
	index   int
	list    []int
	workers int
	name    string
	b       []byte
	m       api.Msg
	all     [][]byte
}

// ask asks a forge, and tells all that it answered.
func (c call) ask(f *forge.Forge) string {
	switch c.what {
	case "Table":
		return fmt.Sprint(samples.WhollyTable(samples.CopyTable(f.Table())))
	case "Block":
		b, e := f.Block(c.index)
		return fmt.Sprint(samples.ToldBlock(b), " ", int(e))
	case "Warm":
		n, e := f.Warm(c.list, c.workers)
		return fmt.Sprint(n, " ", int(e))
	case "Compiled":
		return fmt.Sprint(f.Compiled())
	case "Program":
		return toldBlocks(f.Program().Blocks)
	case "Decode":
		m, e := f.Decode(c.name, c.b)
		return fmt.Sprint(told(m), " ", int(e))
	case "Encode":
		b, e := f.Encode(c.name, c.m)
		return fmt.Sprintf("%x %d", b, int(e))
	case "DecodeAll":
		l, e := f.DecodeAll(c.name, c.all, c.workers)
		return fmt.Sprint(toldAll(l), " ", int(e))
	}
	return fmt.Sprint(f.Runs())
}

func toldBlocks(l []plan.Block) string {
	out := ""
	for _, b := range l {
		out += samples.ToldBlock(b) + "\n"
	}
	return out
}

// tell tells what the chapter says of a call.
func (a *again) tell(c call) string {
	switch c.what {
	case "Table":
		return fmt.Sprint(samples.WhollyTable(samples.CopyTable(a.table)))
	case "Block":
		if c.index < 0 || c.index >= len(a.blocks) {
			return fmt.Sprint(samples.ToldBlock(plan.Block{}), " ", int(api.ErrArg))
		}
		a.done[c.index]++
		return fmt.Sprint(samples.ToldBlock(a.blocks[c.index]), " ", int(api.OK))
	case "Warm":
		return a.warm(c.list, c.workers)
	case "Compiled":
		return fmt.Sprint(len(a.done))
	case "Program":
		a.compileAll()
		return toldBlocks(a.blocks)
	case "Decode":
		m, e := a.decode(c.name, c.b)
		return fmt.Sprint(told(m), " ", int(e))
	case "Encode":
		b, e := a.encode(c.name, c.m)
		return fmt.Sprintf("%x %d", b, int(e))
	case "DecodeAll":
		l, e := a.decodeAll(c.name, c.all, c.workers)
		return fmt.Sprint(toldAll(l), " ", int(e))
	}
	return fmt.Sprint(a.runs)
}

func (a *again) warm(list []int, workers int) string {
	refused := fmt.Sprint(0, " ", int(api.ErrArg))
	if workers < 1 || workers > 64 {
		return refused
	}
	for _, i := range list {
		if i < 0 || i >= len(a.blocks) {
			return refused
		}
	}
	before := len(a.done)
	for _, i := range list {
		a.done[i]++
	}
	return fmt.Sprint(len(a.done)-before, " ", int(api.OK))
}

func (a *again) compileAll() {
	for i := range a.blocks {
		a.done[i]++
	}
}

func (a *again) find(name string) int {
	for i, x := range a.table.Types {
		if x.Name == name && !x.Enum {
			return i
		}
	}
	return -1
}

func (a *again) decode(name string, b []byte) (api.Msg, api.Errno) {
	i := a.find(name)
	if i < 0 {
		return api.Msg{}, api.ErrNone
	}
	a.compileAll()
	a.runs++
	return interp.Decode(a.table, i, b)
}

func (a *again) encode(name string, m api.Msg) ([]byte, api.Errno) {
	i := a.find(name)
	if i < 0 {
		return nil, api.ErrNone
	}
	if ok, _ := model.Typed(a.table, i, m); !ok {
		return nil, api.ErrType
	}
	a.compileAll()
	a.runs++
	return interp.Encode(a.table, i, m)
}

func (a *again) decodeAll(name string, l [][]byte, workers int) ([]answer, api.Errno) {
	if a.find(name) < 0 {
		return nil, api.ErrNone
	}
	if workers < 1 || workers > 64 {
		return nil, api.ErrArg
	}
	var out []answer
	for _, b := range l {
		m, e := a.decode(name, b)
		out = append(out, answer{M: m, E: e})
	}
	return out, api.OK
}

// someCall tells a call of a table's forge by chance; now and then one that is refused.
func someCall(m *samples.Maker, x api.Table) call {
	c := call{what: samples.Pick(m, "Table", "Block", "Block", "Warm", "Warm", "Compiled", "Program", "Decode", "Encode", "Encode", "DecodeAll", "Runs")}
	index := 0
	if l := messages(x); len(l) > 0 {
		index = samples.Pick(m, l...)
		c.m = samples.Pick(m, m.Message, m.Message, changed(m))(x, index, 2)
	}
	c.name = samples.Pick(m, nameOf(x, index), nameOf(x, index), nameOf(x, index), nameOf(x, m.Below(len(x.Types)+1)), samples.Pick(m, strangers()...))
	c.index = samples.Pick(m, m.Below(len(x.Types)+1), m.Below(len(x.Types)+1), -1, math.MinInt, math.MaxInt)
	c.workers = samples.Pick(m, 1, 2, 3, 64, 1+m.Below(64), m.Below(70)-2)
	for range m.Below(5) {
		c.list = append(c.list, m.Below(len(x.Types)+m.Below(20)/19+1-min(1, len(x.Types))))
	}
	for range m.Below(6) {
		c.all = append(c.all, someBytes(m, x, index))
	}
	c.b = someBytes(m, x, index)
	return c
}

// changed tells messages with something changed: most are not typed.
func changed(m *samples.Maker) func(api.Table, int, int) api.Msg {
	return func(x api.Table, index, deep int) api.Msg { return m.Changed(m.Message(x, index, deep)) }
}

func nameOf(x api.Table, index int) string {
	if index < len(x.Types) {
		return x.Types[index].Name
	}
	return "none"
}

// someBytes tells bytes of a type, now and then bent.
func someBytes(m *samples.Maker, x api.Table, index int) []byte {
	if index >= len(x.Types) || x.Types[index].Enum {
		return []byte{8, 1}
	}
	b := m.Bytes(x, index, 2)
	for range m.Below(3) * m.Below(2) {
		b = m.Bent(b)
	}
	return b
}

// TestAgain plays calls by chance, one behind the other, with forges and with the second reading.
func TestAgain(t *testing.T) {
	m := samples.New(1751)
	counts := map[string]int{}
	for step := range 2500 {
		x := samples.Pick(m, m.Table, m.Table, m.Rich, em, wide)()
		if step%200 == 0 {
			x = api.Table{}
		}
		f, a := of(t, x), newAgain(t, x)
		var before []call
		for range 2 + m.Below(12) {
			c := someCall(m, x)
			if got, want := c.ask(f), a.tell(c); got != want {
				t.Fatalf("%s\nbehind %s:\n%s\nanswers %s\nwant %s", brief(x), brief(before), brief(c), brief(got), brief(want))
			}
			if compiled := fmt.Sprint(f.Compiled(), f.Runs()); compiled != fmt.Sprint(len(a.done), a.runs) {
				t.Fatalf("%s\nbehind %s, %s: %s, want %d, %d", brief(x), brief(before), brief(c), compiled, len(a.done), a.runs)
			}
			counts[c.what]++
			before = append(before, c)
		}
	}
	for what, n := range counts {
		if n < 500 {
			t.Errorf("%s was asked %d times", what, n)
		}
	}
	if len(counts) != 9 {
		t.Errorf("%d calls were asked", len(counts))
	}
}
