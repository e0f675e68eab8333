package delta_test

import (
	"bytes"
	"fmt"
	"math"
	"slices"
	"strings"
	"sync"
	"testing"
	"time"

	"cartouche/api"
	"cartouche/delta"
	"cartouche/samples"
)

// TestR1R2 has any tables, messages, steps and bytes: none panics, beside an error nothing is told, and the errors are the chapter's.
func TestR1R2(t *testing.T) {
	m := samples.New(2141)
	seen := map[api.Errno]int{}
	for range 2000 {
		g := anyGiven(m)
		lookAgain(t, g)
		l := g.ask()
		l.lookAtZero(t)
		for _, e := range l.errors() {
			seen[e]++
		}
	}
	for _, e := range []api.Errno{api.OK, api.ErrArg, api.ErrNone, api.ErrType, api.ErrRange, api.ErrSyntax} {
		if seen[e] < 100 {
			t.Errorf("error %d: %d times", e, seen[e])
		}
	}
}

// TestR1Wild has tables, messages, steps and bytes in which anything may stand.
func TestR1Wild(t *testing.T) {
	m := samples.New(2142)
	for range 5000 {
		g := given{x: samples.Pick(m, em(), wide(), m.WildTable()), index: m.Below(4) - 1, a: m.Wild(3), b: m.Wild(2)}
		if m.Below(2) == 0 {
			g.a, g.b = msg(), msg(field(1, num(1)))
		}
		for range m.Below(4) {
			s := delta.Step{Do: m.Below(5), E: m.Wild(1).Unknown}
			for range m.Below(3) {
				s.Path = append(s.Path, samples.Pick(m, 3, 5, m.Below(20)-2, math.MinInt, math.MaxInt))
			}
			if l := m.Wild(2).Fields; len(l) > 0 {
				s.F = l[0]
			}
			g.steps = append(g.steps, s)
		}
		for range m.Below(20) {
			g.raw = append(g.raw, samples.Pick(m, 10, 18, 26, 34, 0, 1, 2, 3, 8, 24, byte(m.Below(256))))
		}
		lookAgain(t, g)
	}
}

// TestR1Short has all bytes up to three.
func TestR1Short(t *testing.T) {
	for n := range 1 << 16 {
		for _, b := range [][]byte{{byte(n)}, {byte(n), byte(n >> 8)}, {18, byte(n), byte(n >> 8)}, {18, 4, 10, 0, byte(n), byte(n >> 8)}, {26, 4, 10, 0, byte(n), byte(n >> 8)}, {10, 6, 10, 0, 18, 2, byte(n), byte(n >> 8)}} {
			want, e := readAgain(em(), 1, b)
			if got, e2 := delta.Read(em(), 1, b); e != e2 || toldSteps(got) != toldSteps(want) {
				t.Errorf("Read(% d): %s, error %d; want %s, error %d", b, toldSteps(got), e2, toldSteps(want), e)
			}
		}
	}
}

// TestR1Big has messages with many parts and deep ones, very many steps, paths and lists of very many numbers: each call ends soon.
func TestR1Big(t *testing.T) {
	const many, depth = 100000, 1<<16 - 1
	begin := time.Now()
	x, l := field(1, num(1)), field(2, num(2))
	way := slices.Repeat([]int{3}, depth)
	one, two := nested(3, depth, msg(x)), nested(3, depth, msg(l))
	lookAtDiff(t, em(), 1, one, two, take(1, way...), put(l, way...))
	lookAtDiff(t, em(), 1, one, one)
	lookAtDiff(t, em(), 1, one, msg(), take(3))
	lookAtBytes(t, em(), 1, all(ofTake(1, depth), ofPut([]byte{18, 1, 2}, depth)), take(1, way...), put(l, way...))
	lookAtRefused(t, em(), 1, one, api.ErrNone, take(1, append(slices.Clone(way), 3)...))
	lookAtRefused(t, em(), 1, msg(), api.ErrNone, take(1, slices.Repeat([]int{3}, 1<<20)...))
	lookAtRefused(t, em(), 1, msg(), api.ErrType, put(nested(3, depth, msg(field(9))).Fields[0]))
	lookAtUnwritten(t, em(), 1, api.ErrTooDeep, put(one.Fields[0]))
	lookAtUnwritten(t, em(), 1, api.ErrType, put(nested(3, depth, msg(field(9))).Fields[0]))
	entries, vals := slices.Repeat([]api.Entry{varint(5, 1)}, many), slices.Repeat([]api.Val{num(5)}, many)
	lookAtDiff(t, em(), 1, unknown(entries...), msg(field(2, vals...)), put(field(2, vals...)), keep(nil))
	lookAtDiff(t, em(), 1, msg(field(2, vals...)), unknown(entries...), take(2), keep(entries))
	steps := slices.Repeat([]delta.Step{put(x), take(1), keep(nil), put(field(3, in(msg()))), put(l, 3)}, many/5)
	lookAtApplied(t, em(), 1, msg(), nested(3, 1, msg(l)), steps...)
	lookAtBytes(t, em(), 1, bytes.Repeat(all(ofPut([]byte{8, 1}, 0), ofTake(1, 0), ofKeep(nil, 0), ofPut([]byte{26, 0}, 0), ofPut([]byte{18, 1, 2}, 1)), many/5), steps...)
	lookAtUnread(t, em(), 1, bytes.Repeat([]byte{18, 0}, many))
	lookAtUnread(t, em(), 1, ofPut(bytes.Repeat([]byte{8, 1}, many), 0))
	lookAtUnread(t, em(), 1, entry(2, bytes.Repeat([]byte{1}, many), []byte{24, 1}))
	if spent := time.Since(begin); spent > 60*time.Second {
		t.Errorf("all that took %v", spent)
	}
}

// TestR1Full has a message of all fields of the greatest table.
func TestR1Full(t *testing.T) {
	var a, b api.Msg
	var want []delta.Step
	for i := range api.MaxFields {
		f := field(i+1, num(int64(i)))
		if i%3 < 2 {
			a.Fields = append(a.Fields, f)
		}
		f.Vals = []api.Val{num(int64(i + i%2))}
		if i%3 > 0 {
			b.Fields = append(b.Fields, f)
		}
		switch {
		case i%3 == 0:
			want = append(want, take(f.Number))
		case i%3 == 2 || i%2 == 1:
			want = append(want, put(f))
		}
	}
	lookAtDiff(t, samples.Full(), api.MaxTypes-1, a, b, want...)
}

// TestTables has tables that are not good, and indices of no message: all calls refuse them, whatever else there is.
func TestTables(t *testing.T) {
	good := given{x: em(), index: 1, a: msg(), b: msg(field(1, num(1))), steps: []delta.Step{put(field(1, num(1)))}, raw: []byte{18, 4, 10, 0, 24, 1}}
	wrong := given{a: msg(field(9)), b: msg(field(9)), steps: []delta.Step{{}}, raw: []byte{1}}
	refused(t, "good", good, api.OK, api.OK, api.OK, api.OK)
	for _, g := range []given{good, wrong, {}} {
		refuse := func(what string, x api.Table, index int) {
			t.Helper()
			g.x, g.index = x, index
			refused(t, what, g, api.ErrArg, api.ErrArg, api.ErrArg, api.ErrArg)
		}
		for _, w := range samples.WrongTables() {
			refuse(w.What, w.Table, 1)
		}
		for _, index := range []int{0, 2, -1, 3, math.MinInt, math.MaxInt, 1 << 32, 1<<32 + 1} {
			refuse("an index", em(), index)
		}
		refuse("no types", api.Table{}, 0)
		const many = 300000
		refuse("many types", api.Table{Types: make([]api.Type, many)}, 0)
		refuse("many fields", samples.Table(samples.Message("M", make([]api.FieldType, many)...)), 0)
		refuse("points", samples.Table(samples.Message(strings.Repeat(".", many))), 0)
	}
}

// roomy tells the same steps with spare room behind each list, and something in it.
func roomy(l []delta.Step) []delta.Step {
	out := slices.Clone(l)
	for i := range out {
		p := samples.WithRoom(parts(out[i]))
		out[i].F, out[i].E = p.Fields[0], p.Unknown
		samples.Roomy(&out[i].Path, 7)
	}
	samples.Roomy(&out, take(7))
	return out
}

// wholly tells all that stands in steps' memory, spare room too.
func wholly(l []delta.Step) string {
	var out strings.Builder
	for _, s := range l[:cap(l)] {
		fmt.Fprint(&out, s.Do, len(s.Path), s.Path[:cap(s.Path)], samples.Wholly(parts(s)))
	}
	return out.String()
}

// TestR3R4Arguments sees that nothing that is handed in is changed, spare room too, whether it is refused or not; and that the same is told again.
func TestR3R4Arguments(t *testing.T) {
	m := samples.New(2143)
	for range 1000 {
		g := samples.Pick(m, someGiven, anyGiven)(m)
		g.x, g.a, g.b, g.steps, g.raw = samples.RoomyTable(g.x), samples.WithRoom(g.a), samples.WithRoom(g.b), roomy(g.steps), samples.Spare(g.raw)
		whole := func() string {
			return samples.WhollyTable(g.x) + samples.Wholly(g.a) + samples.Wholly(g.b) + wholly(g.steps) + string(g.raw[:cap(g.raw)])
		}
		before, first := whole(), g.ask().told()
		if whole() != before {
			t.Errorf("changed: %s", brief(before))
		}
		if again := g.ask().told(); again != first {
			t.Errorf("asked again: %s; want %s", brief(again), brief(first))
		}
	}
}

// lists tells, as one message, all lists of steps but their paths.
func lists(l []delta.Step) api.Msg {
	var out api.Msg
	for _, s := range l {
		out.Fields = append(out.Fields, s.F, field(0, in(unknown(s.E...))))
	}
	return out
}

// sharePaths tells whether two paths of all these steps share memory, spare room too.
func sharePaths(l ...[]delta.Step) bool {
	places := map[*int]bool{}
	count := 0
	for _, s := range slices.Concat(l...) {
		path := s.Path[:cap(s.Path)]
		for i := range path {
			places[&path[i]] = true
		}
		count += len(path)
	}
	return len(places) < count
}

// TestR4AnswersAreNew sees that no two lists of an answer share memory, and none with what was handed in, also where one message is handed in twice, and one step many times.
func TestR4AnswersAreNew(t *testing.T) {
	m := samples.New(2144)
	for range 1000 {
		g := someGiven(m)
		g.a, g.b, g.raw = samples.WithRoom(g.a), samples.WithRoom(g.b), samples.Spare(g.raw)
		if m.Below(6) == 0 {
			g.b = g.a
		}
		if g.steps = roomy(g.steps); m.Below(4) == 0 {
			g.steps = slices.Concat(g.steps, g.steps, g.steps)
		}
		l, again := g.ask(), g.ask()
		others := []api.Msg{g.a, g.b, unknown(api.Entry{B: g.raw}), lists(g.steps), lists(again.diff), lists(again.read), again.applied}
		if samples.Shares(lists(l.diff), append(others, l.applied, lists(l.read))...) || samples.Shares(l.applied, append(others, lists(l.read))...) || samples.Shares(lists(l.read), others...) {
			t.Errorf("%s, %s: %s shares memory", told(g.a), told(g.b), brief(l.told()))
		}
		if samples.Shares(unknown(api.Entry{B: l.bytes}), append(others, unknown(api.Entry{B: again.bytes}))...) {
			t.Errorf("%s: the bytes share memory", brief(toldSteps(g.steps)))
		}
		if len(g.steps) > 0 && sharePaths(l.diff, l.read, g.steps[:1]) || sharePaths(l.diff, again.diff, l.read, again.read) {
			t.Errorf("%s, %s: %s: paths share memory", told(g.a), told(g.b), brief(l.told()))
		}
		first := again.told()
		for _, own := range [][]delta.Step{l.diff, l.read} {
			for i := range own {
				clear(own[i].Path[:cap(own[i].Path)])
				own[i].F.Number = 77
			}
		}
		clear(l.bytes[:cap(l.bytes)])
		clear(l.applied.Fields[:cap(l.applied.Fields)])
		if third := g.ask().told(); again.told() != first || third != first {
			t.Errorf("spoiled: %s, was %s", brief(third), brief(first))
		}
	}
}

// TestR4NotKept changes steps, a message and bytes behind a call: what was told is as it was, and what is told then is of what they are.
func TestR4NotKept(t *testing.T) {
	b := []byte("a")
	a := msg(field(2, api.Val{B: b}), field(5, in(unknown(api.Entry{Number: 9, Kind: api.Chunk, B: b}))))
	steps := []delta.Step{put(a.Fields[0], 5, 5), keep(a.Fields[1].Vals[0].M[0].Unknown)}
	l, _ := delta.Diff(wide(), 1, msg(), a)
	got, _ := delta.Apply(wide(), 1, nested(5, 2, msg()), steps)
	before := toldSteps(l) + told(got)
	b[0] = 'b'
	steps[0].Path[0], steps[0].F.Vals[0].N, steps[1].E[0].Number = 7, 7, 7
	if toldSteps(l)+told(got) != before {
		t.Errorf("%s, %s; was %s", toldSteps(l), told(got), before)
	}
	raw := ofKeep([]byte{74, 1, 97}, 0)
	l, _ = delta.Read(em(), 1, raw)
	clear(raw)
	if want := toldSteps([]delta.Step{keep([]api.Entry{chunk(9, "a")})}); toldSteps(l) != want {
		t.Errorf("%s; was %s", toldSteps(l), want)
	}
}

// TestR4EmptyLists sees that nil and an empty list are one.
func TestR4EmptyLists(t *testing.T) {
	m := samples.New(2145)
	for range 1000 {
		g := samples.Pick(m, someGiven, anyGiven)(m)
		other := g
		other.x, other.a, other.b = samples.EmptiedTable(g.x), samples.Emptied(g.a), samples.Emptied(g.b)
		other.raw = append([]byte{}, g.raw...)
		other.steps = append([]delta.Step{}, g.steps...)
		for i, s := range other.steps {
			p := samples.Emptied(parts(s))
			other.steps[i] = delta.Step{Do: s.Do, Path: append([]int{}, s.Path...), F: p.Fields[0], E: p.Unknown}
		}
		if got, want := other.ask().told(), g.ask().told(); got != want {
			t.Errorf("%s, %s with empty lists: %s; want %s", told(g.a), told(g.b), brief(got), brief(want))
		}
	}
}

// TestR5Many asks from many goroutines at a time, of the same tables, messages, steps and bytes.
func TestR5Many(t *testing.T) {
	m := samples.New(2146)
	var rows []given
	var want []string
	for range 40 {
		g := someGiven(m)
		rows, want = append(rows, g), append(want, g.ask().told())
	}
	var group sync.WaitGroup
	for worker := range 8 {
		group.Go(func() {
			for step := range 100 {
				i := (7*worker + step) % len(rows)
				if got := rows[i].ask().told(); got != want[i] {
					t.Errorf("row %d: %s; want %s", i, brief(got), brief(want[i]))
				}
			}
		})
	}
	group.Wait()
}
