package table

import (
	"slices"
	"strings"

	"cartouche/api"
	"cartouche/fields"
	"cartouche/scalar"
)

// between stands between the names of a full name.
const between = "."

// maxSymbol is the greatest number of a symbol.
const maxSymbol = 1<<31 - 1

// Good tells whether a table is good.
func Good(t api.Table) bool {
	if len(t.Types) > api.MaxTypes {
		return false
	}
	known := map[string]int{}
	for i, x := range t.Types {
		if _, taken := known[x.Name]; taken || !isFullName(x) || !standsRight(t, known, x.Name) || !isGoodType(t, x) {
			return false
		}
		known[x.Name] = i
	}
	return true
}

// isFullName asks how many names there are ahead of cutting: that may be any number.
func isFullName(x api.Type) bool {
	most := api.MaxNest
	if x.Enum {
		most++
	}
	return strings.Count(x.Name, between) < most && areNames(strings.Split(x.Name, between))
}

// standsRight tells whether what is around a type is a message among the types ahead of it.
func standsRight(t api.Table, known map[string]int, name string) bool {
	last := strings.LastIndex(name, between)
	if last < 0 {
		return true
	}
	i, ok := known[name[:last]]
	return ok && !t.Types[i].Enum
}

func areNames(l []string) bool {
	return !slices.ContainsFunc(l, func(s string) bool { return !isName(s) })
}

func isName(s string) bool {
	for i := range len(s) {
		if c := s[i]; !isLetter(c) && (i == 0 || !isDigit(c)) {
			return false
		}
	}
	return s != ""
}

func isLetter(c byte) bool {
	return c >= 'a' && c <= 'z' || c >= 'A' && c <= 'Z' || c == '_'
}

func isDigit(c byte) bool { return c >= '0' && c <= '9' }

// areDifferent tells whether no two are the same.
func areDifferent[T comparable](l []T) bool {
	once := make(map[T]struct{}, len(l))
	for _, x := range l {
		once[x] = struct{}{}
	}
	return len(once) == len(l)
}

func isGoodType(t api.Table, x api.Type) bool {
	if x.Enum {
		return len(x.Fields)+len(x.Oneofs)+len(x.Reserved) == 0 && hasGoodSymbols(x.Symbols)
	}
	return len(x.Symbols) == 0 && isGoodMessage(t, x)
}

func hasGoodSymbols(l []api.Symbol) bool {
	if len(l) == 0 || len(l) > api.MaxFields || l[0].Number != 0 {
		return false
	}
	var names []string
	var numbers []int
	for _, s := range l {
		if s.Number < 0 || s.Number > maxSymbol {
			return false
		}
		names = append(names, s.Name)
		numbers = append(numbers, s.Number)
	}
	return areNames(names) && areDifferent(names) && areDifferent(numbers)
}

// isGoodMessage looks at the numbers of fields ahead of ranges: these are held against fields that rise.
func isGoodMessage(t api.Table, x api.Type) bool {
	if len(x.Fields) > api.MaxFields || len(x.Reserved) > api.MaxFields {
		return false
	}
	isBad := func(f api.FieldType) bool { return !isGoodField(t, x, f) }
	return !slices.ContainsFunc(x.Fields, isBad) && doRise(x.Fields) && areFree(x.Reserved, x.Fields) && haveMembers(x) && hasGoodNames(x)
}

func doRise(l []api.FieldType) bool {
	last := 0
	for _, f := range l {
		if f.Number <= last {
			return false
		}
		last = f.Number
	}
	return last <= api.MaxNumber
}

// areFree tells whether ranges rise within their bounds, and no field has one of their numbers.
func areFree(l []api.Range, taken []api.FieldType) bool {
	last := 0
	for _, r := range l {
		if r.Low <= last || r.Low > r.High {
			return false
		}
		if f, ok := fields.LastUpTo(taken, r.High); ok && f.Number >= r.Low {
			return false
		}
		last = r.High
	}
	return last <= api.MaxNumber
}

func haveMembers(x api.Type) bool {
	for i := range x.Oneofs {
		if !slices.ContainsFunc(x.Fields, func(f api.FieldType) bool { return f.Label == api.Member && f.Oneof == i }) {
			return false
		}
	}
	return true
}

func hasGoodNames(x api.Type) bool {
	names := slices.Clone(x.Oneofs)
	for _, f := range x.Fields {
		names = append(names, f.Name)
	}
	return areNames(names) && areDifferent(names)
}

func isGoodField(t api.Table, x api.Type, f api.FieldType) bool {
	return f.Kind >= api.Bool && f.Kind <= api.Message && hasGoodRef(t, f) && hasGoodLabel(f) && hasGoodOneof(x, f) && hasGoodKey(f)
}

func hasGoodRef(t api.Table, f api.FieldType) bool {
	if f.Kind != api.Enum && f.Kind != api.Message {
		return f.Ref == 0
	}
	return f.Ref >= 0 && f.Ref < len(t.Types) && t.Types[f.Ref].Enum == (f.Kind == api.Enum)
}

func hasGoodLabel(f api.FieldType) bool {
	switch f.Label {
	case api.Plain:
		return f.Kind != api.Message
	case api.Packed:
		return scalar.Numeric(f.Kind)
	}
	return f.Label > api.Plain && f.Label <= api.Map
}

func hasGoodOneof(x api.Type, f api.FieldType) bool {
	if f.Label != api.Member {
		return f.Oneof == 0
	}
	return f.Oneof >= 0 && f.Oneof < len(x.Oneofs)
}

func hasGoodKey(f api.FieldType) bool {
	if f.Label != api.Map {
		return f.Key == 0
	}
	return scalar.IsKey(f.Key)
}
