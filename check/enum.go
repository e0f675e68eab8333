package check

import (
	"cartouche/api"
	"cartouche/parse"
)

// symbolsEnd is one past the greatest number of a symbol.
const symbolsEnd = 1 << 31

func (d decl) enum() (api.Type, api.Fault) {
	if fault := d.lookAtSymbols(); fault.Code != api.OK {
		return api.Type{}, fault
	}
	t := api.Type{Name: d.name, Enum: true}
	for _, s := range d.tree.Symbols {
		t.Symbols = append(t.Symbols, api.Symbol{Name: s.Name, Number: int(s.Number)})
	}
	return t, api.Fault{}
}

func (d decl) lookAtSymbols() api.Fault {
	l := d.tree.Symbols
	if len(l) == 0 {
		return d.spot.fault(api.ErrSymbol)
	}
	if l[0].Number != 0 {
		return d.at(l[0].NumberAt).fault(api.ErrSymbol)
	}
	names := firsts(l, func(s parse.Symbol) string { return s.Name })
	numbers := firsts(l, func(s parse.Symbol) uint64 { return s.Number })
	for i, s := range l {
		switch {
		case i >= api.MaxFields:
			return d.at(s.At).fault(api.ErrLimit)
		case l[names[s.Name]].At != s.At:
			return d.at(s.At).fault(api.ErrDup)
		case s.Number >= symbolsEnd:
			return d.at(s.NumberAt).fault(api.ErrRange)
		case l[numbers[s.Number]].At != s.At:
			return d.at(s.NumberAt).fault(api.ErrNumber)
		}
	}
	return api.Fault{}
}
