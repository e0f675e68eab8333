package merge_test

import (
	"fmt"
	"math"
	"slices"
	"strings"
	"sync"
	"testing"
	"time"
	"unsafe"

	"cartouche/api"
	"cartouche/merge"
	"cartouche/model"
	"cartouche/samples"
)

// TestR1R2 has tables that are not good, any index and number, messages that are not typed, any paths: none panics, and beside an error nothing is told.
func TestR1R2(t *testing.T) {
	m := samples.New(108)
	seen := map[api.Errno]int{}
	for range 6000 {
		x, index := m.Sample()
		a, b, mask := m.Message(x, index, 3), m.Message(x, index, 3), maskOf(m, x, index)
		for _, spoil := range []func(){
			func() { x = m.Spoiled(x) },
			func() { index = samples.Pick(m, m.Below(len(x.Types)+2)-1, math.MinInt, math.MaxInt) },
			func() { a = m.Changed(a) },
			func() { a, b = m.Wild(3), m.Changed(b) },
			func() { mask = append(mask, samples.Pick(m, "", ".", "x.x", "m.", "m.m.m.m.m.x", "\xff")) },
			func() {
				for i := range mask {
					mask[i] = bent(m, mask[i])
				}
			},
		} {
			if m.Below(4) == 0 {
				spoil()
			}
		}
		l := ask(x, index, a, b, samples.Pick(m, m.Below(8), m.Below(16), -1, math.MinInt, math.MaxInt, api.MaxNumber, api.MaxNumber+1), mask)
		l.lookAtZero(t)
		lookAtOrder(t, x, index, a, b, l)
		for _, e := range l.errors() {
			seen[e]++
		}
	}
	for _, e := range []api.Errno{api.OK, api.ErrArg, api.ErrType, api.ErrName, api.ErrNone} {
		if seen[e] < 500 {
			t.Errorf("error %d: %d times", e, seen[e])
		}
	}
	if len(seen) != 5 {
		t.Errorf("errors: %v", seen)
	}
}

// lookAtOrder sees that the error is the one that is named first.
func lookAtOrder(t *testing.T, x api.Table, index int, a, b api.Msg, l answers) {
	t.Helper()
	isTyped, e := model.Typed(x, index, a)
	bothTyped, _ := model.Typed(x, index, b)
	bothTyped = bothTyped && isTyped
	isArg := e == api.ErrArg
	for i, e := range l.errors() {
		typed := isTyped
		if i == 0 {
			typed = bothTyped
		}
		if (e == api.ErrArg) != isArg || i != 1 && (e == api.ErrType) != (!isArg && !typed) {
			t.Errorf("call %d of %s, %s: error %d", i, told(a), told(b), e)
		}
	}
}

// soon sees that something has ended after some seconds: it would take far longer, if it went through anything again and again.
func soon(t *testing.T, what string, run func()) {
	t.Helper()
	begin := time.Now()
	run()
	if spent := time.Since(begin); spent > 20*time.Second {
		t.Errorf("%s took %v", what, spent)
	}
}

// TestR1Deep has messages that are nested as deep as can be.
func TestR1Deep(t *testing.T) {
	const depth = 1<<16 - 1
	x, l := field(1, num(1)), field(2, num(2))
	one, two := samples.Nested(3, depth, msg(x)), samples.Nested(3, depth, msg(l))
	both := samples.Nested(3, depth, msg(x, l))
	way := strings.Repeat("m.", depth)
	soon(t, "merging", func() { lookAtMerge(t, em(), 1, one, two, both) })
	soon(t, "masks", func() {
		lookAtMask(t, em(), 1, both, []string{way + "x"}, one, two)
		lookAtMask(t, em(), 1, both, []string{way + "m.x"}, samples.Nested(3, depth, msg()), both)
		lookAtMask(t, em(), 1, both, []string{"m"}, both, msg())
	})
	soon(t, "paths", func() {
		lookAtPaths(t, em(), 1, both, way+"x", way+"l")
		lookAtValue(t, em(), 1, both, way+"x", x, api.OK)
		lookAtValue(t, em(), 1, both, way+"m", api.Field{}, api.ErrNone)
		lookAtValue(t, em(), 1, both, way+"y", api.Field{}, api.ErrName)
		lookAtValue(t, em(), 1, both, "m", both.Fields[0], api.OK)
	})
	wrong := samples.Nested(3, depth, msg(field(9)))
	refused(t, "deep, not typed", em(), 1, wrong, wrong, 9, []string{way + "x"}, [...]api.Errno{api.ErrType, api.ErrNone, api.ErrType, api.ErrType, api.ErrType, api.ErrType})
}

// TestR1Long has paths with many more names than a message can have messages within, names of many bytes, and masks of many paths.
func TestR1Long(t *testing.T) {
	const many = 1 << 20
	x := field(1, num(1))
	way := strings.Repeat("m.", many)
	m := msg(x, field(3, in(msg(x, field(3, in(msg(x)))))))
	soon(t, "long paths", func() {
		lookAtValue(t, em(), 1, m, way+"x", api.Field{}, api.ErrNone)
		lookAtMask(t, em(), 1, m, []string{way + "x"}, samples.Nested(3, 2, msg()), m)
		for _, bad := range []string{way, way + "y", way + "x.x", strings.Repeat(".", many), strings.Repeat("x", many), strings.Repeat("x.", many), "m." + strings.Repeat("m", many)} {
			lookAtValue(t, em(), 1, m, bad, api.Field{}, api.ErrName)
			refused(t, "long", em(), 1, m, m, 9, []string{bad}, [...]api.Errno{api.OK, api.ErrNone, api.ErrName, api.ErrName, api.ErrName, api.OK})
		}
	})
	var mask []string
	for i := range 1 << 17 {
		mask = append(mask, strings.Repeat("m.", i%9)+"l")
	}
	soon(t, "many paths", func() { lookAtMask(t, em(), 1, m, mask, samples.Nested(3, 2, msg()), m) })
}

// TestR1Many has lists, maps and what is not known with many parts, and the greatest table.
func TestR1Many(t *testing.T) {
	const many = 1 << 18
	var even, odd, all api.Field
	even.Number, odd.Number, all.Number = 10, 10, 10
	for i := range int64(many) {
		own := &even
		if i%2 == 1 {
			own = &odd
		}
		for _, f := range []*api.Field{own, &all} {
			f.Keys, f.Vals = append(f.Keys, num(i)), append(f.Vals, num(5))
		}
	}
	soon(t, "maps", func() {
		lookAtMerge(t, wide(), 1, msg(even), msg(odd), msg(all))
		lookAtMerge(t, wide(), 1, msg(odd), msg(all), msg(all))
	})
	list, rest := field(6, make([]api.Val, many)...), slices.Repeat([]api.Entry{varint(99, 1)}, many)
	soon(t, "lists", func() {
		lookAtMerge(t, wide(), 1, with(msg(list), rest...), with(msg(list), rest...), with(msg(field(6, make([]api.Val, 2*many)...)), slices.Concat(rest, rest)...))
		lookAtMask(t, wide(), 1, with(msg(list), rest...), []string{"repeated"}, msg(list), unknown(rest...))
	})
	var a, b, both api.Msg
	var names []string
	for i := range api.MaxFields {
		f := field(i+1, num(int64(i)))
		both.Fields, names = append(both.Fields, f), append(names, fmt.Sprint("f", i))
		if i%3 > 0 {
			a.Fields = append(a.Fields, f)
		}
		if i%3 < 2 {
			b.Fields = append(b.Fields, f)
		}
	}
	lookAtMerge(t, samples.Full(), 127, a, b, both)
	lookAtMask(t, samples.Full(), 127, both, names, both, msg())
	lookAtPaths(t, samples.Full(), 127, both, names...)
}

func TestR4Arguments(t *testing.T) {
	m := samples.New(109)
	for range 1000 {
		x, index := m.Sample()
		a, b := samples.WithRoom(m.Message(x, index, 3)), samples.WithRoom(m.Message(x, index, 3))
		if m.Below(5) == 0 {
			a = samples.WithRoom(m.Wild(2))
		}
		mask := maskOf(m, x, index)
		samples.Roomy(&mask, "spare")
		types, first, second, paths := fmt.Sprintf("%+v", x), samples.Wholly(a), samples.Wholly(b), fmt.Sprintf("%q", mask[:cap(mask)])
		ask(x, index, a, b, 1+m.Below(6), mask)
		if fmt.Sprintf("%+v", x) != types || samples.Wholly(a) != first || samples.Wholly(b) != second || fmt.Sprintf("%q", mask[:cap(mask)]) != paths {
			t.Errorf("changed: %s, %s, %s", first, second, paths)
		}
	}
}

// TestR4AnswersAreNew sees that no two lists of an answer share memory, and none with what was handed in, also where one message is handed in twice.
func TestR4AnswersAreNew(t *testing.T) {
	m := samples.New(110)
	for range 1000 {
		x, index := m.Sample()
		a, b := samples.WithRoom(m.Message(x, index, 3)), samples.WithRoom(m.Message(x, index, 3))
		if m.Below(4) == 0 {
			b = a
		}
		mask := maskOf(m, x, index)
		l := ask(x, index, a, b, 1+m.Below(6), mask)
		parts := []api.Msg{l.merged, msg(l.value), l.kept, l.left, msg(field(1, l.byDefault))}
		for i, got := range parts {
			others := append(slices.Delete(slices.Clone(parts), i, i+1), a, b)
			if samples.Shares(got, others...) {
				t.Errorf("%s, %s, mask %q: answer %d shares memory: %s", told(a), told(b), mask, i, told(got))
			}
		}
	}
}

// TestR4PathsAreNew sees that the paths that are told share no memory with the table's names.
func TestR4PathsAreNew(t *testing.T) {
	x := wide()
	paths, _ := merge.Paths(x, 1, full())
	for _, path := range paths {
		for _, own := range x.Types {
			for _, f := range own.Fields {
				if unsafe.StringData(path) == unsafe.StringData(f.Name) {
					t.Errorf("%q is the table's", path)
				}
			}
		}
	}
	if again, _ := merge.Paths(x, 1, full()); &again[0] == &paths[0] || len(paths) == 0 {
		t.Error("one list is told twice")
	}
}

// TestR4EmptyLists sees that nil and an empty list are one.
func TestR4EmptyLists(t *testing.T) {
	m := samples.New(111)
	for range 1000 {
		x, index := m.Sample()
		a, b, mask := m.Message(x, index, 3), m.Message(x, index, 3), maskOf(m, x, index)
		if m.Below(4) == 0 {
			a = m.Changed(a)
		}
		empty := append([]string{}, mask...)
		if one, two := ask(x, index, a, b, 1, mask).told(), ask(x, index, samples.Emptied(a), samples.Emptied(b), 1, empty).told(); one != two {
			t.Errorf("%s, %s with empty lists: %s, want %s", told(a), told(b), two, one)
		}
	}
}

// TestR5Many asks from many goroutines at a time, of one table, the same messages and masks.
func TestR5Many(t *testing.T) {
	m := samples.New(112)
	x := wide()
	var given [][2]api.Msg
	var masks [][]string
	var want []string
	for range 40 {
		a, b, mask := m.Message(x, 1, 3), m.Message(x, 1, 3), maskOf(m, x, 1)
		given, masks = append(given, [2]api.Msg{a, b}), append(masks, mask)
		want = append(want, ask(x, 1, a, b, 5, mask).told())
	}
	var group sync.WaitGroup
	for worker := range 8 {
		group.Go(func() {
			for step := range 100 {
				i := (7*worker + step) % len(given)
				if got := ask(x, 1, given[i][0], given[i][1], 5, masks[i]).told(); got != want[i] {
					t.Errorf("message %d: %s, want %s", i, got, want[i])
				}
			}
		})
	}
	group.Wait()
}

// TestR6First sees that the table and the index are asked ahead of messages, messages ahead of paths, and paths ahead of what is there.
func TestR6First(t *testing.T) {
	bad := msg(field(9))
	spoiled := em()
	spoiled.Types[1].Name = ""
	refused(t, "all is wrong", spoiled, -1, bad, bad, 9, []string{""}, allArg)
	refused(t, "the table", spoiled, 1, bad, bad, 9, []string{""}, allArg)
	refused(t, "the index", em(), 0, bad, bad, 9, []string{""}, allArg)
	refused(t, "the message", em(), 1, bad, bad, 9, []string{""}, [...]api.Errno{api.ErrType, api.ErrNone, api.ErrType, api.ErrType, api.ErrType, api.ErrType})
	refused(t, "the path", em(), 1, msg(), msg(), 9, []string{"m.y"}, [...]api.Errno{api.OK, api.ErrNone, api.ErrName, api.ErrName, api.ErrName, api.OK})
	refused(t, "what is there", em(), 1, msg(), msg(), 9, []string{"m.x"}, [...]api.Errno{api.OK, api.ErrNone, api.ErrNone, api.OK, api.OK, api.OK})
}
