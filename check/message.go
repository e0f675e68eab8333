package check

import (
	"cmp"
	"slices"

	"cartouche/api"
	"cartouche/parse"
)

func (b *bundle) message(d decl) (api.Type, api.Fault) {
	if fault := d.lookAtRanges(); fault.Code != api.OK {
		return api.Type{}, fault
	}
	if fault := d.lookAtOneofs(); fault.Code != api.OK {
		return api.Type{}, fault
	}
	fields, fault := b.fields(d)
	if fault.Code != api.OK {
		return api.Type{}, fault
	}
	return api.Type{Name: d.name, Fields: fields, Oneofs: d.oneofs(), Reserved: d.reserved()}, api.Fault{}
}

// isNumber tells whether a field may have that number.
func isNumber(n uint64) bool { return n >= 1 && n <= api.MaxNumber }

// meets tells whether a range that is in order has a number in common with one of others.
func meets(r parse.Range, others []parse.Range) bool {
	return slices.ContainsFunc(others, func(o parse.Range) bool { return o.Low <= r.High && r.Low <= o.High })
}

func (d decl) lookAtRanges() api.Fault {
	l := d.tree.Reserved
	for i, r := range l {
		switch {
		case i >= api.MaxFields:
			return d.at(r.At).fault(api.ErrLimit)
		case !isNumber(r.Low) || !isNumber(r.High) || r.Low > r.High:
			return d.at(r.At).fault(api.ErrRange)
		case meets(r, l[:i]):
			return d.at(r.At).fault(api.ErrNumber)
		}
	}
	return api.Fault{}
}

func nameOfOneof(o parse.Oneof) string { return o.Name }

func (d decl) lookAtOneofs() api.Fault {
	l := d.tree.Oneofs
	first := firsts(l, nameOfOneof)
	for _, o := range l {
		if l[first[o.Name]].At != o.At {
			return d.at(o.At).fault(api.ErrDup)
		}
	}
	return api.Fault{}
}

func (d decl) oneofs() []string {
	var out []string
	for _, o := range d.tree.Oneofs {
		out = append(out, o.Name)
	}
	return out
}

func (d decl) reserved() []api.Range {
	var out []api.Range
	for _, r := range d.tree.Reserved {
		out = append(out, api.Range{Low: int(r.Low), High: int(r.High)})
	}
	slices.SortFunc(out, func(a, b api.Range) int { return cmp.Compare(a.Low, b.Low) })
	return out
}
