package interp_test

import (
	"slices"
	"testing"

	"cartouche/api"
	"cartouche/interp"
	"cartouche/model"
	"cartouche/samples"
	"cartouche/scalar"
	"cartouche/table"
	"cartouche/wire"
)

// last tells the only entry of some bytes.
func last(t *testing.T, b []byte) api.Entry {
	t.Helper()
	l, e := wire.Split(b)
	if e != api.OK || len(l) != 1 {
		t.Fatalf("% d: error %d", b, e)
	}
	return l[0]
}

// readAgain reads the chapter's words of reading a second time: each fault is handed up, and each thing is put at its place at once.
func readAgain(t api.Table, index int, b []byte) (api.Msg, api.Errno) {
	if len(b) > 65536 {
		return api.Msg{}, api.ErrTooBig
	}
	var m api.Msg
	e := readInto(t, index, 1, b, &m)
	if e != api.OK {
		return api.Msg{}, e
	}
	return m, api.OK
}

func readInto(t api.Table, index, depth int, b []byte, m *api.Msg) api.Errno {
	for at := 0; at < len(b); {
		number, kind, next, e := wire.GetTag(b, at)
		if e != api.OK {
			return e
		}
		f, _ := table.Field(t, index, number)
		switch as, _ := table.Takes(t, index, number, kind); {
		case as == 0:
			var x api.Entry
			x, next, e = wire.GetEntry(b, at)
			m.Unknown = append(m.Unknown, x)
		case as == table.Row:
			next, e = rowInto(t, f, b, next, m)
		case f.Label == api.Map:
			next, e = pairInto(t, f, depth, b, next, m)
		case f.Label == api.Optional && f.Kind == api.Message:
			old := []api.Msg{{}}
			if was, ok := model.Get(*m, number); ok {
				old = was.Vals[0].M
			}
			next, e = messageInto(t, f.Ref, depth, b, next, &old[0])
			put(m, field(number, api.Val{M: old}))
		default:
			var v api.Val
			v, next, e = readValue(t, f.Kind, f.Ref, depth, b, next)
			was, _ := model.Get(*m, number)
			switch f.Label {
			case api.Repeated, api.Packed:
				put(m, field(number, append(was.Vals, v)...))
			case api.Member:
				for _, o := range t.Types[index].Fields {
					if o.Label == api.Member && o.Oneof == f.Oneof {
						*m = model.Clear(*m, o.Number)
					}
				}
				put(m, field(number, v))
			default:
				put(m, field(number, v))
			}
		}
		if e != api.OK {
			return e
		}
		at = next
	}
	return api.OK
}

// put lays a field in place of the one that is there, and sorts.
func put(m *api.Msg, f api.Field) {
	m.Fields = slices.DeleteFunc(m.Fields, func(o api.Field) bool { return o.Number == f.Number })
	m.Fields = append(m.Fields, f)
	slices.SortFunc(m.Fields, func(a, b api.Field) int { return a.Number - b.Number })
}

func rowInto(t api.Table, f api.FieldType, b []byte, at int, m *api.Msg) (int, api.Errno) {
	c, next, e := wire.GetChunk(b, at)
	if e != api.OK {
		return 0, e
	}
	was, _ := model.Get(*m, f.Number)
	for at := 0; at < len(c); {
		var v api.Val
		if v, at, e = readValue(t, f.Kind, f.Ref, 0, c, at); e != api.OK {
			return 0, e
		}
		was.Vals = append(was.Vals, v)
	}
	put(m, field(f.Number, was.Vals...))
	return next, api.OK
}

func messageInto(t api.Table, ref, depth int, b []byte, at int, m *api.Msg) (int, api.Errno) {
	c, next, e := wire.GetChunk(b, at)
	if e != api.OK {
		return 0, e
	}
	if depth+1 > 16 {
		return 0, api.ErrTooDeep
	}
	return next, readInto(t, ref, depth+1, c, m)
}

func readValue(t api.Table, kind, ref, depth int, b []byte, at int) (api.Val, int, api.Errno) {
	if kind == api.Message {
		m := api.Msg{}
		next, e := messageInto(t, ref, depth, b, at, &m)
		return in(m), next, e
	}
	v, next, e := scalar.Get(kind, b, at)
	if e == api.OK && kind == api.Enum {
		if _, none := table.Symbol(t, ref, int(v.N)); none != api.OK {
			e = api.ErrSymbol
		}
	}
	return v, next, e
}

func pairInto(t api.Table, f api.FieldType, depth int, b []byte, at int, m *api.Msg) (int, api.Errno) {
	c, next, e := wire.GetChunk(b, at)
	if e != api.OK {
		return 0, e
	}
	var key, val *api.Val
	for at := 0; at < len(c); {
		number, kind, behind, e := wire.GetTag(c, at)
		var v api.Val
		switch {
		case e != api.OK:
		case number == 1 && kind == ownWire(f.Key):
			v, behind, e = scalar.Get(f.Key, c, behind)
			key = &v
		case number == 2 && kind == ownWire(f.Kind):
			v, behind, e = readValue(t, f.Kind, f.Ref, depth, c, behind)
			val = &v
		default:
			_, behind, e = wire.GetEntry(c, at)
		}
		if e != api.OK {
			return 0, e
		}
		at = behind
	}
	if key == nil {
		key = &api.Val{}
	}
	if val == nil {
		val = &api.Val{}
		if f.Kind == api.Message {
			if depth+1 > 16 {
				return 0, api.ErrTooDeep
			}
			val.M = []api.Msg{{}}
		}
	}
	was, _ := model.Get(*m, f.Number)
	was.Number = f.Number
	place, isThere := slices.BinarySearchFunc(was.Keys, *key, func(a, b api.Val) int {
		order, _ := scalar.Compare(f.Key, a, b)
		return order
	})
	if isThere {
		was.Vals[place] = *val
	} else {
		was.Keys, was.Vals = slices.Insert(was.Keys, place, *key), slices.Insert(was.Vals, place, *val)
	}
	put(m, was)
	return next, api.OK
}

// writeAgain reads the chapter's words of writing a second time, by the bytes alone.
func writeAgain(t api.Table, index int, m api.Msg) []byte {
	var out []byte
	for _, f := range m.Fields {
		x, _ := table.Field(t, index, f.Number)
		var row []byte
		for i, v := range f.Vals {
			b := bare
			if x.Kind == api.Message {
				b = func(_ int, v api.Val) []byte { return chunk(writeAgain(t, x.Ref, v.M[0])) }
			}
			own := all(tag(f.Number, ownWire(x.Kind)), b(x.Kind, v))
			switch {
			case x.Label == api.Plain && v.N == 0 && len(v.B) == 0:
			case x.Label == api.Packed:
				row = all(row, b(x.Kind, v))
			case x.Label == api.Map:
				out = all(out, tag(f.Number, 2), chunk(tag(1, ownWire(x.Key)), bare(x.Key, f.Keys[i]), tag(2, ownWire(x.Kind)), b(x.Kind, v)))
			default:
				out = all(out, own)
			}
		}
		if len(row) > 0 {
			out = all(out, tag(f.Number, 2), chunk(row))
		}
	}
	for _, x := range m.Unknown {
		out = all(out, tag(x.Number, x.Kind), samples.Behind(x))
	}
	return out
}

// TestReadAgain holds Decode against the chapter's words read a second time, over many byte strings.
func TestReadAgain(t *testing.T) {
	m := samples.New(91)
	counts := map[api.Errno]int{}
	for range 2500 {
		x := m.Table()
		for range 6 {
			b := m.Bytes(x, 0, 4)
			for range m.Below(3) {
				b = m.Bent(b)
			}
			counts[lookAgain(t, x, 0, b)]++
		}
		counts[lookAgain(t, keyed(), 0, inside(1, 10+m.Below(6), m.Bytes(keyed(), 0, 4)))]++
	}
	for _, e := range []api.Errno{api.OK, api.ErrTooDeep, api.ErrEnd, api.ErrVarint, api.ErrNumber, api.ErrKind, api.ErrRange, api.ErrText, api.ErrSymbol} {
		if counts[e] < 10 {
			t.Errorf("error %d was seen %d times", e, counts[e])
		}
	}
	if counts[api.OK] < 5000 {
		t.Errorf("%d byte strings were read", counts[api.OK])
	}
}

func lookAgain(t *testing.T, x api.Table, index int, b []byte) api.Errno {
	t.Helper()
	want, wantE := readAgain(x, index, b)
	got, e := interp.Decode(x, index, b)
	if e != wantE || told(got) != told(want) {
		t.Errorf("Decode(% d): %s, error %d; want %s, error %d; table %+v", b, told(got), e, told(want), wantE, x)
	}
	known, unknown, e2 := interp.Entries(x, index, b)
	total := 0
	if l, _ := wire.Split(b); e == api.OK {
		total = len(l)
	}
	if e2 != e || unknown != len(want.Unknown) || known+unknown != total {
		t.Errorf("Entries(% d): %d, %d, error %d", b, known, unknown, e2)
	}
	return e
}

// TestWriteAgain holds Encode and Size against the chapter's words read a second time, over many messages.
func TestWriteAgain(t *testing.T) {
	m := samples.New(92)
	counts := map[api.Errno]int{}
	for range 1500 {
		x := m.Table()
		for range 4 {
			a := m.Message(x, 0, 4)
			for range m.Below(2) {
				a = m.Changed(a)
			}
			if ok, _ := model.Typed(x, 0, a); !ok {
				lookAtRefused(t, x, 0, a, api.ErrType)
				counts[api.ErrType]++
				continue
			}
			lookAtWritten(t, x, 0, a, writeAgain(x, 0, a))
			counts[api.OK]++
		}
	}
	if counts[api.OK] < 2500 || counts[api.ErrType] < 800 {
		t.Errorf("so many by error: %v", counts)
	}
}
