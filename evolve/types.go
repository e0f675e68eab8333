package evolve

import (
	"cartouche/api"
	"cartouche/fields"
)

// gather takes a change of the type at hand.
type gather func(what, number, class int)

// placed is a type and the types beside it, by which its fields name others.
type placed struct {
	api.Type
	beside []api.Type
}

func typeIn(t api.Table, index int) placed { return placed{t.Types[index], t.Types} }

// compareTypes gathers what changed between two types of one name.
func compareTypes(from, to placed, tell gather) {
	switch {
	case from.Enum != to.Enum:
		tell(Sort, 0, Breaking)
	case from.Enum:
		compareSymbols(from.Type, to.Type, tell)
	default:
		compareMembers(from, to, tell)
		compareReserved(from.Reserved, to.Reserved, tell)
	}
}

func compareSymbols(from, to api.Type, tell gather) {
	for _, s := range from.Symbols {
		switch now, isThere := symbolOf(to, s.Number); {
		case !isThere:
			tell(LostSymbol, s.Number, Breaking)
		case now.Name != s.Name:
			tell(Renamed, s.Number, Widening)
		}
	}
	for _, s := range to.Symbols {
		if _, wasThere := symbolOf(from, s.Number); !wasThere {
			tell(NewSymbol, s.Number, Widening)
		}
	}
}

func symbolOf(x api.Type, number int) (api.Symbol, bool) {
	return fields.Symbol(x, func(s api.Symbol) bool { return s.Number == number })
}

func compareMembers(from, to placed, tell gather) {
	for _, f := range from.Fields {
		now, isThere := fields.Find(to.Fields, f.Number)
		if !isThere {
			tell(LostField, f.Number, Breaking)
			continue
		}
		compareFields(from.field(f), to.field(now), tell)
	}
	for _, number := range freshNumbers(from.Fields, to.Fields) {
		tell(NewField, number, Additive)
	}
}

// freshNumbers tells the numbers that fields have now and had not before, rising as the fields do.
func freshNumbers(from, to []api.FieldType) []int {
	var out []int
	for _, f := range to {
		if _, wasThere := fields.Find(from, f.Number); !wasThere {
			out = append(out, f.Number)
		}
	}
	return out
}

// wideningIf tells the class of what is Breaking otherwise.
func wideningIf(isSo bool) int {
	if isSo {
		return Widening
	}
	return Breaking
}
