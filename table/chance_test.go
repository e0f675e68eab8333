package table_test

import (
	"fmt"
	"slices"
	"strings"
	"testing"

	"cartouche/api"
	"cartouche/samples"
	"cartouche/table"
)

// faults reads the chapter's words a second time: it tells each part of them that a table breaks.
func faults(t api.Table) []string {
	var out []string
	say := func(bad bool, what string, i int) {
		if bad {
			out = append(out, fmt.Sprint(what, " of type ", i))
		}
	}
	say(len(t.Types) > 128, "too many types", -1)
	for i, x := range t.Types {
		names := strings.Split(x.Name, ".")
		around := strings.Join(names[:len(names)-1], ".")
		inside := len(names) == 1
		for j, o := range t.Types {
			say(j < i && o.Name == x.Name, "name twice", i)
			inside = inside || j < i && o.Name == around && !o.Enum
		}
		say(!inside, "nothing around", i)
		say(len(names) > 9 || len(names) > 8 && !x.Enum, "too deep", i)
		say(!areWords(names), "no names", i)
		if x.Enum {
			say(len(x.Symbols) < 1 || len(x.Symbols) > 128 || x.Symbols[0].Number != 0, "symbols", i)
			say(len(x.Fields) > 0 || len(x.Oneofs) > 0 || len(x.Reserved) > 0, "a message's parts", i)
			for a, s := range x.Symbols {
				say(!areWords([]string{s.Name}) || s.Number < 0 || s.Number >= 1<<31, "symbol", i)
				for _, o := range x.Symbols[:a] {
					say(o.Name == s.Name || o.Number == s.Number, "symbol twice", i)
				}
			}
			continue
		}
		say(len(x.Symbols) > 0 || len(x.Fields) > 128 || len(x.Reserved) > 128, "counts", i)
		all := append([]string{}, x.Oneofs...)
		for a, f := range x.Fields {
			all = append(all, f.Name)
			say(f.Number < 1 || f.Number >= 1<<29 || a > 0 && x.Fields[a-1].Number >= f.Number, "number", i)
			say(isFieldBad(t, x, f), "field", i)
		}
		say(!areWords(all), "names", i)
		for a, s := range all {
			say(slices.Contains(all[:a], s), "member twice", i)
		}
		for a, r := range x.Reserved {
			say(r.Low < 1 || r.High >= 1<<29 || r.Low > r.High, "range", i)
			say(a > 0 && x.Reserved[a-1].Low >= r.Low, "ranges do not rise", i)
			for _, o := range x.Reserved[:a] {
				say(max(o.Low, r.Low) <= min(o.High, r.High), "ranges meet", i)
			}
			for _, f := range x.Fields {
				say(r.Low <= f.Number && f.Number <= r.High, "field in a range", i)
			}
		}
		members := map[int]int{}
		for _, f := range x.Fields {
			if f.Label == api.Member {
				members[f.Oneof]++
			}
		}
		for a := range x.Oneofs {
			say(members[a] == 0, "oneof without a member", i)
		}
	}
	return out
}

const (
	letters = "abcdefghijklmnopqrstuvwxyzABCDEFGHIJKLMNOPQRSTUVWXYZ_"
	digits  = "0123456789"
)

func areWords(l []string) bool {
	for _, s := range l {
		if s == "" || strings.Contains(digits, s[:1]) || strings.Trim(s, letters+digits) != "" {
			return false
		}
		for _, c := range []byte(s) {
			if !strings.Contains(letters+digits, string(rune(c))) {
				return false
			}
		}
	}
	return true
}

func isFieldBad(t api.Table, x api.Type, f api.FieldType) bool {
	numeric := f.Kind <= api.Double || f.Kind == api.Enum
	key := f.Key >= api.Bool && f.Key <= api.Sfixed64 || f.Key == api.String
	ref := f.Ref == 0
	if f.Kind == api.Enum || f.Kind == api.Message {
		ref = false
		for i, o := range t.Types {
			ref = ref || i == f.Ref && o.Enum == (f.Kind == api.Enum)
		}
	}
	switch {
	case f.Kind < 1, f.Kind > 17, f.Label < 0, f.Label > 5, !ref:
		return true
	case f.Label == api.Plain && f.Kind == api.Message, f.Label == api.Packed && !numeric:
		return true
	case f.Label == api.Member && (f.Oneof < 0 || f.Oneof >= len(x.Oneofs)), f.Label != api.Member && f.Oneof != 0:
		return true
	}
	return f.Label == api.Map && !key || f.Label != api.Map && f.Key != 0
}

func TestP7_1Chance(t *testing.T) {
	m := samples.New(71)
	counts := map[string]int{}
	for range 20000 {
		x := m.BentTable()
		l := faults(x)
		if got := table.Good(x); got != (len(l) == 0) {
			t.Errorf("Good(%+v): %v, but %q", x, got, l)
		}
		if len(l) == 0 {
			counts["good"]++
		}
		if len(l) == 1 {
			counts[strings.Split(l[0], " of type")[0]]++
		}
	}
	for _, what := range []string{"good", "name twice", "nothing around", "no names", "symbols", "symbol", "symbol twice", "a message's parts", "counts", "number", "field", "names", "member twice", "range", "ranges do not rise", "ranges meet", "field in a range", "oneof without a member"} {
		if counts[what] < 10 {
			t.Errorf("too few alone: %s: %v", what, counts)
		}
	}
}

// TestP7_2Chance asks each field and symbol of tables by chance, and numbers and names about them.
func TestP7_2Chance(t *testing.T) {
	m := samples.New(72)
	for range 400 {
		x := m.Rich()
		for index, y := range x.Types {
			for n := range 40 {
				f, e := table.Field(x, index, n)
				i := slices.IndexFunc(y.Fields, func(f api.FieldType) bool { return f.Number == n })
				switch {
				case y.Enum && e != api.ErrArg, !y.Enum && i < 0 && e != api.ErrNone, e != api.OK && f != (api.FieldType{}), i >= 0 && (e != api.OK || f != y.Fields[i]):
					t.Errorf("Field(%+v, %d, %d): %+v, error %d", x, index, n, f, e)
				}
				name := fmt.Sprint("f", n)
				if again, e2 := table.Named(x, index, name); again != f || e2 != e {
					t.Errorf("Named(%+v, %d, %s): %+v, error %d, but by its number %+v, error %d", x, index, name, again, e2, f, e)
				}
				kind, want := api.Chunk, 0
				switch {
				case i >= 0 && y.Fields[i].Label == api.Packed:
					want = table.Row
				case i >= 0 && y.Fields[i].Label == api.Map:
					want = table.Value
				case i >= 0:
					kind, want = samples.Wire(y.Fields[i].Kind), table.Value
				}
				if got, e3 := table.Takes(x, index, n, kind); got != want || (e3 == api.ErrArg) != y.Enum {
					t.Errorf("Takes(%+v, %d, %d, %d): %d, error %d, want %d", x, index, n, kind, got, e3, want)
				}
			}
			for _, s := range y.Symbols {
				lookAt(t, s.Name, symbol(x, index, s.Number), answer{name: s.Name})
				lookAt(t, s.Name, number(x, index, s.Name), answer{number: s.Number})
			}
			lookAt(t, y.Name, find(x, y.Name), answer{number: index})
		}
	}
}
