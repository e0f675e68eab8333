package pass_test

import (
	"fmt"
	"slices"
	"strings"
	"sync"
	"testing"
	"time"

	"cartouche/api"
	"cartouche/pass"
	"cartouche/samples"
	"cartouche/table"
)

// given is what is handed in.
type given struct {
	first, second api.Table
	name          string
	m             api.Msg
}

func (g given) ask() answers { return ask(g.first, g.second, g.name, g.m) }

// someGiven tells good tables and a message that is typed by the first one.
func someGiven(m *samples.Maker) given {
	first, second := m.TwoTables()
	if m.Below(2) == 0 {
		first, second = second, first
	}
	name, a := someMessage(m, first, second)
	return given{first, second, name, a}
}

// anyGiven tells the same with something changed: tables that may not be good, any names, messages that may not be typed.
func anyGiven(m *samples.Maker) given {
	g := someGiven(m)
	for _, spoil := range []func(){
		func() { g.first = m.AnyTable() },
		func() { g.second = m.AnyTable() },
		func() { g.first, g.second = m.AnyTable(), m.WildTable() },
		func() { g.name = m.AnyName(samples.Pick(m, g.first, g.second)) },
		func() { g.m = m.Changed(g.m) },
		func() { g.m = m.Wild(3) },
	} {
		if m.Below(6) == 0 {
			spoil()
		}
	}
	return g
}

// TestR1R2 has any tables, names and messages: none panics, beside an error nothing is told, and the errors are the chapter's.
func TestR1R2(t *testing.T) {
	m := samples.New(1941)
	seen := map[api.Errno]int{}
	for range 6000 {
		g := anyGiven(m)
		l := g.ask()
		l.lookAtZero(t)
		if table.Good(g.first) && table.Good(g.second) {
			lookAgain(t, g.first, g.second, g.name, g.m)
		} else {
			refused(t, "not good", g.first, g.second, g.name, g.m, api.ErrArg)
		}
		seen[l.ofAcross]++
	}
	for _, e := range []api.Errno{api.OK, api.ErrArg, api.ErrNone, api.ErrType} {
		if seen[e] < 300 {
			t.Errorf("error %d: %d times", e, seen[e])
		}
	}
}

// TestR1Big has very long lists and names, messages with many parts and deep ones: each call ends soon.
func TestR1Big(t *testing.T) {
	const many = 300000
	begin := time.Now()
	for what, x := range map[string]api.Table{
		"types": {Types: make([]api.Type, many)}, "fields": samples.Table(samples.Message("M", make([]api.FieldType, many)...)), "symbols": samples.Table(api.Type{Name: "M", Enum: true, Symbols: make([]api.Symbol, many)}),
		"ranges": samples.Table(api.Type{Name: "M", Reserved: make([]api.Range, many)}), "points": samples.Table(samples.Message(strings.Repeat(".", many))),
	} {
		refused(t, what, x, em(), "M", msg(), api.ErrArg)
		refused(t, what, em(), x, "M", msg(), api.ErrArg)
	}
	long := strings.Repeat("M", many)
	refused(t, "a long name", em(), em(), long, msg(), api.ErrNone)
	x := em()
	x.Types[1].Name = long
	survives(t, x, x, long, msg(field(1, num(1))))
	entries, vals := slices.Repeat([]api.Entry{varint(5, 1)}, many), make([]api.Val, many)
	const depth = 1<<16 - 1
	for _, a := range []api.Msg{unknown(entries...), msg(field(2, vals...)), nested(3, depth, unknown(varint(5, 1)))} {
		want := api.ErrTooBig
		if len(a.Fields) > 0 && a.Fields[0].Number == 3 {
			want = api.ErrTooDeep
		}
		if l := ask(em(), en(), "M", a); l.errors() != [...]api.Errno{want, want, api.OK, api.OK} || l.clash || l.survives {
			t.Errorf("errors %d, clash %v, survives %v", l.errors(), l.clash, l.survives)
		}
	}
	refused(t, "many fields", em(), en(), "M", msg(make([]api.Field, many)...), api.ErrType)
	refused(t, "deep, not typed", em(), en(), "M", nested(3, depth, msg(field(9))), api.ErrType)
	survives(t, em(), en(), "M", unknown(slices.Repeat([]api.Entry{varint(5, 1)}, api.MaxMessage/2)...))
	if spent := time.Since(begin); spent > 20*time.Second {
		t.Errorf("all that took %v", spent)
	}
}

// TestR3R4Arguments sees that nothing that is handed in is changed, spare room too, whether it is refused or not; and that the same is told again.
func TestR3R4Arguments(t *testing.T) {
	m := samples.New(1942)
	for range 1500 {
		g := samples.Pick(m, someGiven, anyGiven)(m)
		g.first, g.second, g.m = samples.RoomyTable(g.first), samples.RoomyTable(g.second), samples.WithRoom(g.m)
		whole := func() string {
			return samples.WhollyTable(g.first) + samples.WhollyTable(g.second) + samples.Wholly(g.m)
		}
		before, first := whole(), g.ask().told()
		if whole() != before {
			t.Errorf("changed: %s", brief(before))
		}
		if again := g.ask().told(); again != first {
			t.Errorf("asked again: %s; want %s", brief(again), brief(first))
		}
	}
}

// TestR4AnswersAreNew sees that no two lists of an answer share memory, and none with what was handed in; what is written over it, no other answer knows of.
func TestR4AnswersAreNew(t *testing.T) {
	m := samples.New(1943)
	for range 1500 {
		g := someGiven(m)
		g.m = samples.WithRoom(g.m)
		l, again := g.ask(), g.ask()
		if samples.Shares(l.across, l.through, again.across, again.through, g.m) || samples.Shares(l.through, l.across, again.across, again.through, g.m) {
			t.Errorf("%s: %s shares memory", told(g.m), brief(l.told()))
		}
		first := again.told()
		for _, x := range []*api.Msg{&l.across, &l.through} {
			samples.Touch{Number: func(n *int) { *n = 77 }, Bits: func(n *uint64) { *n = 77 }, Bytes: func(b *[]byte) { clear((*b)[:cap(*b)]) }}.Message(x)
		}
		if third := g.ask().told(); again.told() != first || third != first {
			t.Errorf("spoiled: %s, was %s", brief(third), brief(first))
		}
	}
}

// TestR4NotKept changes a table and a message behind a call: what is told then is of what they are.
func TestR4NotKept(t *testing.T) {
	from, to := em(), em()
	m := msg(field(1, num(5)))
	there, _ := pass.Across(from, to, "M", m)
	to.Types[1].Fields[0].Number, to.Types[1].Fields[1].Number = 2, 1
	to.Types[1].Fields[0], to.Types[1].Fields[1] = to.Types[1].Fields[1], to.Types[1].Fields[0]
	m.Fields[0].Vals[0].N = 6
	if told(there) != told(msg(field(1, num(5)))) {
		t.Errorf("told: %s", told(there))
	}
	lookAtWay(t, from, to, m, `l [ 6 ]`, `? 1 - 2 : "\x06"`)
	lookAtClash(t, from, to, m, false)
	to.Types[1].Name = "N"
	refused(t, "another name", from, to, "M", m, api.ErrNone)
	from.Types[1].Fields[0].Kind = 0
	refused(t, "no kind", from, to, "M", m, api.ErrArg)
}

// TestR4EmptyLists sees that nil and an empty list are one.
func TestR4EmptyLists(t *testing.T) {
	m := samples.New(1944)
	for range 1500 {
		g := samples.Pick(m, someGiven, anyGiven)(m)
		want := g.ask().told()
		for _, other := range []given{
			{samples.EmptiedTable(g.first), g.second, g.name, g.m}, {g.first, samples.EmptiedTable(g.second), g.name, g.m}, {g.first, g.second, g.name, samples.Emptied(g.m)},
		} {
			if got := other.ask().told(); got != want {
				t.Errorf("%s with empty lists: %s; want %s", told(g.m), brief(got), brief(want))
			}
		}
	}
}

// TestR5Many asks from many goroutines at a time, of the same tables and messages.
func TestR5Many(t *testing.T) {
	m := samples.New(1945)
	var rows []given
	var want []string
	for range 40 {
		g := someGiven(m)
		rows, want = append(rows, g), append(want, g.ask().told())
	}
	var group sync.WaitGroup
	for worker := range 8 {
		group.Go(func() {
			for step := range 100 {
				i := (7*worker + step) % len(rows)
				if got := rows[i].ask().told(); got != want[i] {
					t.Errorf("row %d: %s; want %s", i, brief(got), brief(want[i]))
				}
			}
		})
	}
	group.Wait()
}

// TestR6First takes one fault after the other away: of those that are there the one that the chapter names first is told.
func TestR6First(t *testing.T) {
	bad := samples.WrongTables()[0].Table
	big := strings.Repeat("a", api.MaxMessage)
	wrong := with(nested(3, api.MaxDepth, msg(field(9))), chunk(4, "\xff"), chunk(9, big))
	refused(t, "all is wrong", bad, bad, "E", wrong, api.ErrArg)
	refused(t, "the first table", bad, em(), "E", wrong, api.ErrArg)
	refused(t, "the second table", em(), bad, "E", wrong, api.ErrArg)
	refused(t, "the name", em(), en(), "E", wrong, api.ErrNone)
	refused(t, "the type", em(), en(), "M", wrong, api.ErrType)
	look := func(what string, m api.Msg, across, through api.Errno) {
		t.Helper()
		l := ask(em(), en(), "M", m)
		if l.errors() != [...]api.Errno{across, through, api.OK, api.OK} || !l.clash || l.survives != (through == api.OK) {
			t.Errorf("%s: errors %d, clash %v, survives %v", what, l.errors(), l.clash, l.survives)
		}
		l.lookAtZero(t)
	}
	look("the depth", with(nested(3, api.MaxDepth, msg()), chunk(4, "\xff"), chunk(9, big)), api.ErrTooDeep, api.ErrTooDeep)
	look("the size", with(nested(3, api.MaxDepth-1, msg()), chunk(4, "\xff"), chunk(9, big)), api.ErrTooBig, api.ErrTooBig)
	look("what is read", with(nested(3, api.MaxDepth-1, msg()), chunk(4, "\xff"), chunk(9, "")), api.ErrText, api.ErrText)
	look("the first that is read", unknown(chunk(4, "a"), chunk(4, "\xff"), chunk(3, "\x08")), api.ErrText, api.ErrText)
	look("the one behind it", unknown(chunk(4, "a"), chunk(3, "\x08"), chunk(4, "\xff")), api.ErrEnd, api.ErrEnd)
	look("nothing", unknown(chunk(4, "a")), api.OK, api.OK)
	if got := fmt.Sprint(ask(em(), em(), "M", msg()).errors()); got != fmt.Sprint([4]api.Errno{}) {
		t.Errorf("of the empty message: %s", got)
	}
}
