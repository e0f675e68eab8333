package forge_test

import (
	"bytes"
	"slices"
	"sync"
	"sync/atomic"
	"testing"

	"cartouche/api"
	"cartouche/check"
	"cartouche/forge"
	"cartouche/interp"
	"cartouche/model"
	"cartouche/parse"
	"cartouche/plan"
	"cartouche/samples"
	"cartouche/self"
)

// byHand are tables that were made by hand.
func byHand(t *testing.T) []api.Table {
	t.Helper()
	x, fault := check.Compile(samples.Files())
	if fault.Code != api.OK {
		t.Fatalf("Compile: %v", fault)
	}
	return append(samples.Singles(), em(), wide(), full(), within(), x, self.Meta())
}

// lookAtRead holds a forge against the interpreter by bytes.
func lookAtRead(t *testing.T, f *forge.Forge, x api.Table, index int, b []byte) api.Errno {
	t.Helper()
	want, wantE := interp.Decode(x, index, b)
	if got, e := f.Decode(x.Types[index].Name, b); e != wantE || !model.Equal(got, want) {
		t.Errorf("Decode(%s): %s, error %d, want %s, error %d; table %s", brief(b), shortly(got), e, shortly(want), wantE, brief(x))
	}
	return wantE
}

// lookAtWritten holds them against each other by a message, typed or not.
func lookAtWritten(t *testing.T, f *forge.Forge, x api.Table, index int, m api.Msg) api.Errno {
	t.Helper()
	want, wantE := interp.Encode(x, index, m)
	if got, e := f.Encode(x.Types[index].Name, m); e != wantE || !bytes.Equal(got, want) {
		t.Errorf("Encode(%s): %s, error %d, want %s, error %d; table %s", shortly(m), brief(got), e, brief(want), wantE, brief(x))
	}
	return wantE
}

// TestP17_4Interpreter (T1): Decode and Encode are interp's by the table.
func TestP17_4Interpreter(t *testing.T) {
	m := samples.New(1741)
	counts := map[api.Errno]int{}
	look := func(x api.Table, times int) {
		f := of(t, x)
		for _, index := range messages(x)[:min(3, len(messages(x)))] {
			for range times {
				counts[lookAtRead(t, f, x, index, someBytes(m, x, index))]++
				counts[lookAtWritten(t, f, x, index, m.Message(x, index, 3))]++
				counts[lookAtWritten(t, f, x, index, m.Changed(m.Message(x, index, 3)))]++
			}
		}
	}
	for _, x := range byHand(t) {
		look(x, 5)
	}
	for range 1500 {
		look(samples.Pick(m, m.Table, m.Table, m.Rich)(), 3)
	}
	for _, e := range []api.Errno{api.OK, api.ErrEnd, api.ErrVarint, api.ErrNumber, api.ErrKind, api.ErrRange, api.ErrText, api.ErrSymbol, api.ErrType} {
		if counts[e] < 5 {
			t.Errorf("error %d was seen %d times", e, counts[e])
		}
	}
	if counts[api.OK] < 10000 {
		t.Errorf("%d were read or written", counts[api.OK])
	}
}

// TestT2 has what is as great or as deep as can be, and more.
func TestT2(t *testing.T) {
	x := em()
	f := of(t, x)
	for _, around := range []int{0, 1, 14, 15, 16, 17, 40} {
		for _, b := range [][]byte{nil, {8, 1}, {8}} {
			lookAtRead(t, f, x, 1, samples.Inside(3, around, b))
		}
		for _, size := range []int{0, api.MaxMessage - 200, api.MaxMessage, api.MaxSize} {
			lookAtWritten(t, f, x, 1, samples.Nested(3, around, samples.Unknown(api.Entry{Number: 4, Kind: api.Chunk, B: make([]byte, size)})))
		}
	}
	for _, b := range [][]byte{bytes.Repeat([]byte{32, 1}, api.MaxMessage/2), bytes.Repeat([]byte{11}, api.MaxMessage+1), append(bytes.Repeat([]byte{32, 1}, api.MaxMessage/2-1), 8, 128), make([]byte, api.MaxMessage)} {
		lookAtRead(t, f, x, 1, b)
	}
}

// orders tells all orders of the numbers below n.
func orders(n int) [][]int {
	if n == 0 {
		return [][]int{nil}
	}
	var out [][]int
	for _, l := range orders(n - 1) {
		for i := range n {
			out = append(out, slices.Insert(slices.Clone(l), i, n-1))
		}
	}
	return out
}

// steady are calls whose answers hang on the table alone.
func steady(m *samples.Maker, x api.Table) []call {
	index := samples.Pick(m, messages(x)...)
	name := x.Types[index].Name
	return []call{
		{what: "Block", index: m.Below(len(x.Types))},
		{what: "Program"},
		{what: "Decode", name: name, b: someBytes(m, x, index)},
		{what: "Encode", name: name, m: m.Message(x, index, 2)},
		{what: "DecodeAll", name: name, workers: 1 + m.Below(64), all: [][]byte{someBytes(m, x, index), someBytes(m, x, index), {8}}},
		{what: "Table"},
		{what: "Block", index: len(x.Types)},
		{what: "Decode", name: "none"},
		{what: "Encode", name: name, m: msg(field(0))},
	}
}

// TestP17_4Orders asks the calls in all orders: each tells what it tells as the first one.
func TestP17_4Orders(t *testing.T) {
	m := samples.New(1742)
	all := orders(5)
	for range 12 {
		x := samples.Pick(m, m.Table, em, wide)()
		l := steady(m, x)[:5]
		var wants []string
		for _, c := range l {
			wants = append(wants, c.ask(of(t, x)))
		}
		for _, order := range all {
			f := of(t, x)
			for _, i := range order {
				if got := l[i].ask(f); got != wants[i] {
					t.Errorf("%s as %v says: %s, want %s", brief(l[i]), order, brief(got), brief(wants[i]))
				}
			}
		}
	}
}

// TestP17_4Many has many goroutines ask one forge at a time: each is told what one alone is told; Compiled and Runs never fall, and are at last what they must be.
func TestP17_4Many(t *testing.T) {
	m := samples.New(1743)
	for range 150 {
		x := samples.Pick(m, m.Table, m.Rich, em, wide)()
		if len(messages(x)) == 0 {
			continue
		}
		f := of(t, x)
		var l []call
		var wants []string
		for range 3 {
			for _, c := range steady(m, x) {
				l, wants = append(l, c), append(wants, c.ask(of(t, x)))
			}
		}
		var group sync.WaitGroup
		for worker := range 8 {
			group.Go(func() {
				compiled, runs := 0, 0
				for step := range l {
					i := (5*worker + step) % len(l)
					if got := l[i].ask(f); got != wants[i] {
						t.Errorf("%s: %s, want %s", brief(l[i]), brief(got), brief(wants[i]))
					}
					f.Warm([]int{i % len(x.Types)}, 1+worker)
					now, ran := f.Compiled(), f.Runs()
					if now < compiled || ran < runs || now > len(x.Types) || now < 1 {
						t.Errorf("%d of %d compiled behind %d, %d runs behind %d", now, len(x.Types), compiled, ran, runs)
					}
					compiled, runs = now, ran
				}
			})
		}
		group.Wait()
		lookAtCounts(t, "all", f, len(x.Types), 8*3*(1+1+3))
	}
}

// TestT8 has many goroutines warm one forge at a time, each by many: of each type just one is told that it was new.
func TestT8(t *testing.T) {
	m := samples.New(1744)
	x := full()
	x.Types = x.Types[:100]
	for i := range x.Types {
		x.Types[i].Fields = x.Types[i].Fields[:3]
	}
	want := better(t, x)
	for range 30 {
		f := of(t, x)
		var fresh atomic.Int64
		var group sync.WaitGroup
		for worker := range 12 {
			list, workers := shuffled(m, numbers(x)), 1+m.Below(64)
			group.Go(func() {
				n, e := f.Warm(list, workers)
				if e != api.OK || f.Compiled() != len(x.Types) {
					t.Errorf("Warm: error %d, %d compiled", e, f.Compiled())
				}
				fresh.Add(int64(n))
				if got := f.Program(); !plan.Equal(got, want) {
					t.Errorf("worker %d: another program", worker)
				}
			})
		}
		group.Wait()
		if fresh.Load() != int64(len(x.Types)) {
			t.Errorf("%d types were new", fresh.Load())
		}
		lookAtCounts(t, "warm", f, len(x.Types), 0)
	}
}

func shuffled(m *samples.Maker, l []int) []int {
	for i := range l {
		j := m.Below(i + 1)
		l[i], l[j] = l[j], l[i]
	}
	return l
}

// TestT8Mixed has them ask for types in each way at a time: what Warm tells as new, and what others compiled, is each type once.
func TestT8Mixed(t *testing.T) {
	m := samples.New(1745)
	x := full()
	x.Types = x.Types[:32]
	want := better(t, x)
	for range 20 {
		f := of(t, x)
		var fresh atomic.Int64
		var group sync.WaitGroup
		for worker := range 9 {
			list := shuffled(m, numbers(x))
			group.Go(func() {
				switch worker % 3 {
				case 0:
					n, _ := f.Warm(list, 3)
					fresh.Add(int64(n))
				case 1:
					for _, i := range list {
						if b, e := f.Block(i); e != api.OK || !sameBlock(b, want.Blocks[i]) {
							t.Errorf("Block(%d): another block, error %d", i, e)
						}
					}
				case 2:
					if _, e := f.Decode("M7", []byte{8, 1}); e != api.OK {
						t.Errorf("Decode: error %d", e)
					}
				}
			})
		}
		group.Wait()
		if fresh.Load() > int64(len(x.Types)) {
			t.Errorf("%d types were new", fresh.Load())
		}
		lookAtCounts(t, "all", f, len(x.Types), 3)
	}
}

// TestP17_4Texts goes from bundles on: what New tells does the same as what Of tells of their table.
func TestP17_4Texts(t *testing.T) {
	m := samples.New(1746)
	for _, text := range []string{"message M { int32 x = 1; repeated uint32 l = 2; M m = 3; }", "enum E { A = 0; } message M { E e = 1; }", "message M { oneof o { int32 a = 1; string b = 2; } map<string, M> m = 3; message N { M m = 1; } }"} {
		if _, fault := parse.Parse(text); fault.Code != api.OK {
			t.Fatalf("%s: %v", text, fault)
		}
		f, fault := forge.New(one(text))
		if fault.Code != api.OK {
			t.Fatalf("%s: %v", text, fault)
		}
		x := f.Table()
		if g := of(t, x); !plan.Equal(f.Program(), g.Program()) {
			t.Errorf("%s: another program", text)
		}
		for _, index := range messages(x) {
			for range 100 {
				lookAtRead(t, f, x, index, someBytes(m, x, index))
				lookAtWritten(t, f, x, index, m.Message(x, index, 3))
			}
		}
	}
	f, _ := forge.New(one("enum E { A = 0; } message M { E e = 1; }"))
	lookAtDecode(t, f, "M", []byte{8, 1}, msg(), api.ErrSymbol)
	lookAtDecode(t, f, "M", []byte{8, 0}, msg(field(1, num(0))), api.OK)
	lookAtCounts(t, "both", f, 2, 2)
}
