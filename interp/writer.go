package interp

import (
	"slices"

	"cartouche/api"
	"cartouche/fields"
	"cartouche/scalar"
	"cartouche/wire"
)

// writer writes typed messages, as long as there are not more bytes than most.
type writer struct {
	types []api.Type
	bytes []byte
	most  int
}

// room throws ErrTooBig, if so many bytes more would be too many: however great a message is, no more than most is written.
func (w *writer) room(count int) {
	if count > w.most-len(w.bytes) {
		panic(api.ErrTooBig)
	}
}

// add takes what a call of a lower layer wrote: none refuses what is typed.
func (w *writer) add(b []byte, _ api.Errno) {
	w.room(len(b))
	w.bytes = append(w.bytes, b...)
}

// chunk writes what is told by a call as a chunk: only behind it is known how many bytes stand ahead.
func (w *writer) chunk(tell func()) {
	from := len(w.bytes)
	tell()
	size := wire.PutVarint(uint64(len(w.bytes) - from))
	w.room(len(size))
	w.bytes = slices.Insert(w.bytes, from, size...)
}

func (w *writer) message(x api.Type, m api.Msg) {
	for _, f := range m.Fields {
		own, _ := fields.Find(x.Fields, f.Number)
		w.field(own, f)
	}
	for _, u := range m.Unknown {
		w.add(wire.PutEntry(u))
	}
}

func (w *writer) field(own api.FieldType, f api.Field) {
	switch own.Label {
	case api.Plain:
		if !fields.IsDefault(f.Vals[0]) {
			w.entry(own.Number, own.Kind, own.Ref, f.Vals[0])
		}
	case api.Optional, api.Member, api.Repeated:
		for _, v := range f.Vals {
			w.entry(own.Number, own.Kind, own.Ref, v)
		}
	case api.Packed:
		w.row(own, f.Vals)
	case api.Map:
		for i, key := range f.Keys {
			w.pair(own, key, f.Vals[i])
		}
	}
}

func (w *writer) row(own api.FieldType, l []api.Val) {
	if len(l) == 0 {
		return
	}
	w.add(wire.PutTag(own.Number, api.Chunk))
	w.chunk(func() {
		for _, v := range l {
			w.value(own.Kind, own.Ref, v)
		}
	})
}

func (w *writer) pair(own api.FieldType, key, val api.Val) {
	w.add(wire.PutTag(own.Number, api.Chunk))
	w.chunk(func() {
		w.entry(keyNumber, own.Key, 0, key)
		w.entry(valNumber, own.Kind, own.Ref, val)
	})
}

func (w *writer) entry(number, kind, ref int, v api.Val) {
	wireKind, _ := scalar.Wire(kind)
	w.add(wire.PutTag(number, wireKind))
	w.value(kind, ref, v)
}

func (w *writer) value(kind, ref int, v api.Val) {
	if kind != api.Message {
		w.add(scalar.Put(kind, v))
		return
	}
	w.chunk(func() { w.message(w.types[ref], v.M[0]) })
}
