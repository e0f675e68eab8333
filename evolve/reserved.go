package evolve

import (
	"slices"

	"cartouche/api"
)

// compareReserved gathers whether other numbers are reserved.
func compareReserved(from, to []api.Range, tell gather) {
	from, to = joined(from), joined(to)
	if !slices.Equal(from, to) {
		tell(Reserved, 0, wideningIf(covers(to, from)))
	}
}

// joined tells rising ranges with those that touch made one: so the same numbers are the same ranges.
func joined(l []api.Range) []api.Range {
	var out []api.Range
	for _, r := range l {
		if last := len(out) - 1; last >= 0 && out[last].High+1 == r.Low {
			out[last].High = r.High
			continue
		}
		out = append(out, r)
	}
	return out
}

// covers tells whether each number of some joined ranges is one of others.
func covers(others, l []api.Range) bool {
	isOut := func(r api.Range) bool {
		return !slices.ContainsFunc(others, func(o api.Range) bool { return o.Low <= r.Low && r.High <= o.High })
	}
	return !slices.ContainsFunc(l, isOut)
}
