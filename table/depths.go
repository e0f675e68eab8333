package table

import (
	"cartouche/api"
)

// states tells of each type whether messages of it can stand at a depth.
type states [api.MaxTypes]bool

// Depths tells how deep a message can be: depth by depth it asks which types can stand there, till none can.
func Depths(t api.Table, index int) (int, api.Errno) {
	if _, e := typeAt(t, index, message); e != api.OK {
		return 0, e
	}
	var here, below states
	here[index] = true
	for depth := range len(t.Types) + 1 {
		if here == (states{}) {
			return depth, api.OK
		}
		clear(below[:])
		for i, x := range t.Types {
			if here[i] {
				below.add(x.Fields)
			}
		}
		here = below
	}
	return 0, api.OK // messages within one another, more than there are types: one of them holds itself
}

// add marks the types of fields that are messages.
func (s *states) add(fields []api.FieldType) {
	for _, f := range fields {
		if f.Kind == api.Message {
			s[f.Ref] = true
		}
	}
}
