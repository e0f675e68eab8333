package interp

import (
	"slices"

	"cartouche/api"
	"cartouche/fields"
)

// fill reads all bytes into a message of a type.
func (c *cursor) fill(x api.Type, m *api.Msg) {
	for !c.isAtEnd() {
		from := c.at
		number, kind := c.tag()
		f, ok := fields.Find(x.Fields, number)
		switch {
		case ok && fields.TakesValue(f, kind):
			c.putValue(x, f, m)
		case ok && fields.TakesRow(f, kind):
			c.putRow(f, m)
		default:
			c.at = from
			m.Unknown = append(m.Unknown, c.entry())
		}
	}
}

// putValue reads a value of a field, and puts it in.
func (c *cursor) putValue(x api.Type, f api.FieldType, m *api.Msg) {
	switch f.Label {
	case api.Plain, api.Optional:
		own := fields.Present(m, f.Number)
		if f.Kind == api.Message {
			c.merge(f, own)
			return
		}
		own.Vals = []api.Val{c.value(f.Kind, f.Ref)}
	case api.Repeated, api.Packed:
		own := fields.Present(m, f.Number)
		own.Vals = append(own.Vals, c.value(f.Kind, f.Ref))
	case api.Map:
		// Behind all others: were each key put at its place at once, many keys would be moved for each.
		own := fields.Present(m, f.Number)
		key, val := c.pair(f)
		own.Keys, own.Vals = append(own.Keys, key), append(own.Vals, val)
	case api.Member:
		dropMembers(x, f.Oneof, m)
		fields.Present(m, f.Number).Vals = []api.Val{c.value(f.Kind, f.Ref)}
	}
}

// merge reads a message into the one that is there.
func (c *cursor) merge(f api.FieldType, own *api.Field) {
	if len(own.Vals) == 0 {
		own.Vals = []api.Val{{M: make([]api.Msg, 1)}}
	}
	c.within(f.Ref, &own.Vals[0].M[0])
}

func (c *cursor) putRow(f api.FieldType, m *api.Msg) {
	own := fields.Present(m, f.Number)
	row := c.chunk()
	for !row.isAtEnd() {
		own.Vals = append(own.Vals, row.value(f.Kind, f.Ref))
	}
}

// dropMembers takes out what is there of a oneof.
func dropMembers(x api.Type, oneof int, m *api.Msg) {
	m.Fields = slices.DeleteFunc(m.Fields, func(o api.Field) bool {
		f, _ := fields.Find(x.Fields, o.Number)
		return f.Label == api.Member && f.Oneof == oneof
	})
}

// orderKeys puts the keys of all maps in order, in the messages within too; of those that are one the last one stays.
func orderKeys(types []api.Type, x api.Type, m api.Msg) {
	for i := range m.Fields {
		own := &m.Fields[i]
		f, _ := fields.Find(x.Fields, own.Number)
		if f.Label == api.Map {
			*own = fields.Ordered(f, *own)
		}
		for _, v := range own.Vals {
			for _, within := range v.M {
				orderKeys(types, types[f.Ref], within)
			}
		}
	}
}
