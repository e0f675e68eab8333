package table_test

import (
	"fmt"
	"math"
	"math/rand"
	"slices"
	"strings"
	"testing"

	"cartouche/api"
	"cartouche/samples"
	"cartouche/table"
)

// maker makes tables by chance.
type maker struct{ chance *rand.Rand }

func newMaker(seed int64) *maker { return &maker{rand.New(rand.NewSource(seed))} }

func pick[T any](m *maker, l ...T) T { return l[m.chance.Intn(len(l))] }

// names lays types: messages among one another, each ahead of those within it. Names of one depth are none of another one, so that full names stand for themselves wherever they are written.
func (m *maker) names(around string, room int) []api.Type {
	var out []api.Type
	for i := range 1 + m.chance.Intn(3) {
		x := api.Type{Name: around + fmt.Sprint(pick(m, "A", "b", "_", "int32x"), room, "_", i), Enum: m.chance.Intn(3) == 0}
		out = append(out, x)
		if !x.Enum && room > 1 && m.chance.Intn(2) == 0 {
			out = append(out, m.names(x.Name+".", room-1)...)
		}
	}
	return out
}

// next tells a good table of some types, with members of all sorts.
func (m *maker) next() api.Table {
	t := tableOf(m.names("", 3)...)
	for i := range t.Types {
		if t.Types[i].Enum {
			t.Types[i].Symbols = m.symbols()
		} else {
			m.members(t, &t.Types[i])
		}
	}
	return t
}

func (m *maker) symbols() []api.Symbol {
	out := []api.Symbol{{Name: "Z"}}
	for i := range m.chance.Intn(4) {
		out = append(out, api.Symbol{Name: fmt.Sprint("S", i), Number: pick(m, 10, 1<<31-5, 1000) + m.chance.Intn(2) + 2*i - 1})
	}
	seen := map[int]int{}
	return slices.DeleteFunc(out, func(s api.Symbol) bool { seen[s.Number]++; return seen[s.Number] > 1 })
}

// members goes up the numbers: at each step stands a field, a range or nothing.
func (m *maker) members(t api.Table, x *api.Type) {
	number := 0
	for range m.chance.Intn(9) {
		number += 1 + m.chance.Intn(3)
		switch m.chance.Intn(4) {
		case 0:
			high := number + m.chance.Intn(3)
			x.Reserved = append(x.Reserved, api.Range{Low: number, High: high})
			number = high
		default:
			x.Fields = append(x.Fields, m.field(t, x, number))
		}
	}
}

func (m *maker) field(t api.Table, x *api.Type, number int) api.FieldType {
	f := api.FieldType{Name: fmt.Sprint("f", number), Number: number, Kind: 1 + m.chance.Intn(api.Message), Label: m.chance.Intn(api.Map + 1)}
	if f.Kind >= api.Enum {
		f.Ref = m.chance.Intn(len(t.Types))
		f.Kind = api.Message
		if t.Types[f.Ref].Enum {
			f.Kind = api.Enum
		}
	}
	switch {
	case f.Label == api.Plain && f.Kind == api.Message:
		f.Label = api.Optional
	case f.Label == api.Packed && (f.Kind == api.String || f.Kind == api.Bytes || f.Kind == api.Message):
		f.Label = api.Repeated
	case f.Label == api.Map:
		f.Key = pick(m, api.Bool, api.Int32, api.Uint64, api.Sfixed64, api.String)
	case f.Label == api.Member:
		if len(x.Oneofs) == 0 || m.chance.Intn(2) == 0 {
			x.Oneofs = append(x.Oneofs, fmt.Sprint("o", number))
		}
		f.Oneof = m.chance.Intn(len(x.Oneofs))
		if !slices.ContainsFunc(x.Fields, func(o api.FieldType) bool { return o.Label == api.Member && o.Oneof == len(x.Oneofs)-1 }) {
			f.Oneof = len(x.Oneofs) - 1
		}
	}
	return f
}

// number tells one near an edge, or near the one that stands there.
func (m *maker) number(n int) int {
	return pick(m, n, n-1, n+1, n+2, 0, 1, 2, 3, -1, api.Message, api.Message+1, api.MaxNumber, api.MaxNumber+1, 1<<31-1, 1<<31, math.MinInt, math.MaxInt)
}

func (m *maker) word(s string) string {
	return pick(m, s, s+"x", s+".x", s+".", "."+s, "", "Z", "f1", "o1", "A3_0", "A3_0.A2_0", "_1", "1", s+"é", s+" ")
}

// change changes one thing of a type.
func (m *maker) change(t api.Table, x *api.Type) {
	switch m.chance.Intn(11) {
	case 0:
		x.Name = pick(m, m.word(x.Name), t.Types[m.chance.Intn(len(t.Types))].Name)
	case 1:
		x.Enum = !x.Enum
	case 2:
		x.Oneofs = append(x.Oneofs, m.word("o"))
	case 3:
		x.Symbols = append(x.Symbols, api.Symbol{Name: m.word("S"), Number: m.number(5)})
	case 4:
		x.Reserved = append(x.Reserved, api.Range{Low: m.number(20), High: m.number(20)})
	case 5:
		m.changeNames(x)
	case 6:
		m.changeRanges(x)
	default:
		m.changeItem(x)
	}
}

// changeNames gives a member the name of another one.
func (m *maker) changeNames(x *api.Type) {
	if len(x.Fields) == 0 {
		return
	}
	f, o := &x.Fields[m.chance.Intn(len(x.Fields))], x.Fields[m.chance.Intn(len(x.Fields))]
	f.Name = o.Name
	if len(x.Oneofs) > 0 && m.chance.Intn(2) == 0 {
		f.Name = pick(m, x.Oneofs...)
	}
}

// changeRanges turns two round, or has one reach to another one.
func (m *maker) changeRanges(x *api.Type) {
	if len(x.Reserved) < 2 {
		return
	}
	i := 1 + m.chance.Intn(len(x.Reserved)-1)
	if m.chance.Intn(2) == 0 {
		x.Reserved[i-1], x.Reserved[i] = x.Reserved[i], x.Reserved[i-1]
		return
	}
	x.Reserved[i-1].High = x.Reserved[i].Low - m.chance.Intn(2)
}

func (m *maker) changeItem(x *api.Type) {
	switch sort := m.chance.Intn(8); {
	case sort == 0 && len(x.Symbols) > 0:
		s := &x.Symbols[m.chance.Intn(len(x.Symbols))]
		s.Name, s.Number = pick(m, s.Name, m.word(s.Name)), pick(m, s.Number, m.number(s.Number))
	case sort == 1 && len(x.Reserved) > 0:
		r := &x.Reserved[m.chance.Intn(len(x.Reserved))]
		r.Low, r.High = pick(m, r.Low, m.number(r.Low)), pick(m, r.High, m.number(r.High))
	case sort == 2 && len(x.Oneofs) > 0:
		x.Oneofs = x.Oneofs[1:]
	case len(x.Fields) > 0:
		f := &x.Fields[m.chance.Intn(len(x.Fields))]
		n := pick(m, &f.Number, &f.Kind, &f.Ref, &f.Label, &f.Oneof, &f.Key)
		*n = m.number(*n)
		if m.chance.Intn(6) == 0 {
			f.Name = m.word(f.Name)
		}
	}
}

// changed tells a table with a few changes; of types that stand in another order too.
func (m *maker) changed() api.Table {
	t := m.next()
	for range m.chance.Intn(3) {
		m.change(t, &t.Types[m.chance.Intn(len(t.Types))])
	}
	if m.chance.Intn(8) == 0 {
		i, j := m.chance.Intn(len(t.Types)), m.chance.Intn(len(t.Types))
		t.Types[i], t.Types[j] = t.Types[j], t.Types[i]
	}
	return t
}

// faults reads the chapter's words a second time: it tells each part of them that a table breaks.
func faults(t api.Table) []string {
	var out []string
	say := func(bad bool, what string, i int) {
		if bad {
			out = append(out, fmt.Sprint(what, " of type ", i))
		}
	}
	say(len(t.Types) > 128, "too many types", -1)
	for i, x := range t.Types {
		names := strings.Split(x.Name, ".")
		around := strings.Join(names[:len(names)-1], ".")
		inside := len(names) == 1
		for j, o := range t.Types {
			say(j < i && o.Name == x.Name, "name twice", i)
			inside = inside || j < i && o.Name == around && !o.Enum
		}
		say(!inside, "nothing around", i)
		say(len(names) > 9 || len(names) > 8 && !x.Enum, "too deep", i)
		say(!areWords(names), "no names", i)
		if x.Enum {
			say(len(x.Symbols) < 1 || len(x.Symbols) > 128 || x.Symbols[0].Number != 0, "symbols", i)
			say(len(x.Fields) > 0 || len(x.Oneofs) > 0 || len(x.Reserved) > 0, "a message's parts", i)
			for a, s := range x.Symbols {
				say(!areWords([]string{s.Name}) || s.Number < 0 || s.Number >= 1<<31, "symbol", i)
				for _, o := range x.Symbols[:a] {
					say(o.Name == s.Name || o.Number == s.Number, "symbol twice", i)
				}
			}
			continue
		}
		say(len(x.Symbols) > 0 || len(x.Fields) > 128 || len(x.Reserved) > 128, "counts", i)
		all := append([]string{}, x.Oneofs...)
		for a, f := range x.Fields {
			all = append(all, f.Name)
			say(f.Number < 1 || f.Number >= 1<<29 || a > 0 && x.Fields[a-1].Number >= f.Number, "number", i)
			say(isFieldBad(t, x, f), "field", i)
		}
		say(!areWords(all), "names", i)
		for a, s := range all {
			say(slices.Contains(all[:a], s), "member twice", i)
		}
		for a, r := range x.Reserved {
			say(r.Low < 1 || r.High >= 1<<29 || r.Low > r.High, "range", i)
			say(a > 0 && x.Reserved[a-1].Low >= r.Low, "ranges do not rise", i)
			for _, o := range x.Reserved[:a] {
				say(max(o.Low, r.Low) <= min(o.High, r.High), "ranges meet", i)
			}
			for _, f := range x.Fields {
				say(r.Low <= f.Number && f.Number <= r.High, "field in a range", i)
			}
		}
		members := map[int]int{}
		for _, f := range x.Fields {
			if f.Label == api.Member {
				members[f.Oneof]++
			}
		}
		for a := range x.Oneofs {
			say(members[a] == 0, "oneof without a member", i)
		}
	}
	return out
}

const (
	letters = "abcdefghijklmnopqrstuvwxyzABCDEFGHIJKLMNOPQRSTUVWXYZ_"
	digits  = "0123456789"
)

func areWords(l []string) bool {
	for _, s := range l {
		if s == "" || strings.Contains(digits, s[:1]) || strings.Trim(s, letters+digits) != "" {
			return false
		}
		for _, c := range []byte(s) {
			if !strings.Contains(letters+digits, string(rune(c))) {
				return false
			}
		}
	}
	return true
}

func isFieldBad(t api.Table, x api.Type, f api.FieldType) bool {
	numeric := f.Kind <= api.Double || f.Kind == api.Enum
	key := f.Key >= api.Bool && f.Key <= api.Sfixed64 || f.Key == api.String
	ref := f.Ref == 0
	if f.Kind == api.Enum || f.Kind == api.Message {
		ref = false
		for i, o := range t.Types {
			ref = ref || i == f.Ref && o.Enum == (f.Kind == api.Enum)
		}
	}
	switch {
	case f.Kind < 1, f.Kind > 17, f.Label < 0, f.Label > 5, !ref:
		return true
	case f.Label == api.Plain && f.Kind == api.Message, f.Label == api.Packed && !numeric:
		return true
	case f.Label == api.Member && (f.Oneof < 0 || f.Oneof >= len(x.Oneofs)), f.Label != api.Member && f.Oneof != 0:
		return true
	}
	return f.Label == api.Map && !key || f.Label != api.Map && f.Key != 0
}

func TestP7_1Chance(t *testing.T) {
	m := newMaker(71)
	counts := map[string]int{}
	for range 20000 {
		x := m.changed()
		l := faults(x)
		if got := table.Good(x); got != (len(l) == 0) {
			t.Errorf("Good(%+v): %v, but %q", x, got, l)
		}
		if len(l) == 0 {
			counts["good"]++
		}
		if len(l) == 1 {
			counts[strings.Split(l[0], " of type")[0]]++
		}
	}
	for _, what := range []string{"good", "name twice", "nothing around", "no names", "symbols", "symbol", "symbol twice", "a message's parts", "counts", "number", "field", "names", "member twice", "range", "ranges do not rise", "ranges meet", "field in a range", "oneof without a member"} {
		if counts[what] < 10 {
			t.Errorf("too few alone: %s: %v", what, counts)
		}
	}
}

// TestP7_2Chance asks each field and symbol of tables by chance, and numbers and names about them.
func TestP7_2Chance(t *testing.T) {
	m := newMaker(72)
	for range 400 {
		x := m.next()
		for index, y := range x.Types {
			for n := range 40 {
				f, e := table.Field(x, index, n)
				i := slices.IndexFunc(y.Fields, func(f api.FieldType) bool { return f.Number == n })
				switch {
				case y.Enum && e != api.ErrArg, !y.Enum && i < 0 && e != api.ErrNone, e != api.OK && f != (api.FieldType{}), i >= 0 && (e != api.OK || f != y.Fields[i]):
					t.Errorf("Field(%+v, %d, %d): %+v, error %d", x, index, n, f, e)
				}
				name := fmt.Sprint("f", n)
				if again, e2 := table.Named(x, index, name); again != f || e2 != e {
					t.Errorf("Named(%+v, %d, %s): %+v, error %d, but by its number %+v, error %d", x, index, name, again, e2, f, e)
				}
				kind, want := api.Chunk, 0
				switch {
				case i >= 0 && y.Fields[i].Label == api.Packed:
					want = table.Row
				case i >= 0 && y.Fields[i].Label == api.Map:
					want = table.Value
				case i >= 0:
					kind, want = samples.Wire(y.Fields[i].Kind), table.Value
				}
				if got, e3 := table.Takes(x, index, n, kind); got != want || (e3 == api.ErrArg) != y.Enum {
					t.Errorf("Takes(%+v, %d, %d, %d): %d, error %d, want %d", x, index, n, kind, got, e3, want)
				}
			}
			for _, s := range y.Symbols {
				lookAt(t, s.Name, symbol(x, index, s.Number), answer{name: s.Name})
				lookAt(t, s.Name, number(x, index, s.Name), answer{number: s.Number})
			}
			lookAt(t, y.Name, find(x, y.Name), answer{number: index})
		}
	}
}
