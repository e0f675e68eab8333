package samples

import (
	"cartouche/api"
	"cartouche/scalar"
	"cartouche/wire"
)

// Bytes tells bytes that are mostly read as a message of a type: fields in any order and several times, values in rows and by themselves, parts that lack, entries that are not known.
func (m *Maker) Bytes(t api.Table, index, within int) []byte {
	var out []byte
	l := t.Types[index].Fields
	for range m.Below(8) {
		part := m.entryBytes()
		if len(l) > 0 && m.Below(7) > 0 {
			part = m.fieldBytes(t, Pick(m, l...), within)
		}
		out = append(out, part...)
	}
	return out
}

func (m *Maker) entryBytes() []byte {
	b, _ := wire.PutEntry(m.Entry())
	return b
}

func (m *Maker) fieldBytes(t api.Table, f api.FieldType, within int) []byte {
	isList := f.Label == api.Repeated || f.Label == api.Packed
	switch {
	case f.Label == api.Map:
		return m.chunkBytes(f.Number, m.pairBytes(t, f, within))
	case isList && scalar.Numeric(f.Kind) && m.Below(2) == 0:
		var row []byte
		for range m.Below(4) {
			row = append(row, m.valueBytes(t, f.Kind, f.Ref, within)...)
		}
		return m.chunkBytes(f.Number, row)
	}
	return m.singleBytes(t, f.Number, f.Kind, f.Ref, within)
}

func (m *Maker) pairBytes(t api.Table, f api.FieldType, within int) []byte {
	var out []byte
	for range Pick(m, 0, 1, 2, 2, 2, 3, 4) {
		switch m.Below(9) {
		case 0:
			out = append(out, m.entryBytes()...)
		case 1, 2, 3, 4:
			out = append(out, m.singleBytes(t, 1, f.Key, 0, within)...)
		default:
			out = append(out, m.singleBytes(t, 2, f.Kind, f.Ref, within)...)
		}
	}
	return out
}

func (m *Maker) singleBytes(t api.Table, number, kind, ref, within int) []byte {
	own, _ := scalar.Wire(kind)
	return append(m.tagBytes(number, own), m.valueBytes(t, kind, ref, within)...)
}

func (m *Maker) chunkBytes(number int, b []byte) []byte {
	return append(m.tagBytes(number, api.Chunk), wire.PutChunk(b)...)
}

func (m *Maker) tagBytes(number, kind int) []byte {
	b, _ := wire.PutTag(number, kind)
	return m.lengthened(b)
}

func (m *Maker) valueBytes(t api.Table, kind, ref, within int) []byte {
	if kind == api.Message {
		if within <= 0 {
			return wire.PutChunk(nil)
		}
		return wire.PutChunk(m.Bytes(t, ref, within-1))
	}
	b, _ := scalar.Put(kind, m.Value(t, kind, ref, 0))
	if own, _ := scalar.Wire(kind); own == api.Varint {
		return m.lengthened(b)
	}
	return b
}

// lengthened gives a varint more digits than need be, now and then.
func (m *Maker) lengthened(b []byte) []byte {
	for len(b) < 10 && m.Below(12) == 0 {
		b[len(b)-1] |= 128
		b = append(b, 0)
	}
	return b
}

// Bent tells bytes with one thing changed by chance, so that there may be a fault in them.
func (m *Maker) Bent(b []byte) []byte {
	out := fresh(b)
	at := m.Below(len(out) + 1)
	some := Pick(m, 0, 1, 2, 8, 10, 11, 16, 18, 26, 127, 128, 255, byte(m.Below(256)))
	switch m.Below(4) {
	case 0:
		return out[:at]
	case 1:
		return append(out[:at], append([]byte{some}, b[at:]...)...)
	}
	if at < len(out) {
		out[at] = Pick(m, some, out[at]+1, out[at]-1, out[at]^128)
	}
	return out
}
