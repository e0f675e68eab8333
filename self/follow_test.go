package self_test

import (
	"bytes"
	"slices"
	"testing"

	"cartouche/api"
	"cartouche/check"
	"cartouche/interp"
	"cartouche/model"
	"cartouche/samples"
	"cartouche/self"
	"cartouche/table"
	"cartouche/wire"
)

// lookAtBack sees that a table is told by its message, and by its bytes if they are not too many, and written again as the same bytes (T6).
func lookAtBack(t *testing.T, x api.Table) {
	t.Helper()
	m, e := self.ToMsg(x)
	if e != api.OK {
		t.Errorf("ToMsg(%s): error %d", brief(x), e)
	}
	lookAtHeard(t, m, x)
	b, e := self.Pack(x)
	if e == api.ErrTooBig && len(packed(x)) > api.MaxMessage {
		return
	}
	if e != api.OK {
		t.Errorf("Pack(%s): error %d", brief(x), e)
	}
	lookAtRead(t, b, x)
	back, _ := self.Unpack(b)
	if again, e := self.Pack(back); e != api.OK || !bytes.Equal(again, b) {
		t.Errorf("Pack(%s): %s, and of what it says %s, error %d", brief(x), brief(b), brief(again), e)
	}
}

// TestP12_4Back: FromMsg of ToMsg is the table, and Unpack of Pack.
func TestP12_4Back(t *testing.T) {
	for _, x := range []api.Table{{}, em(), wide(), all(), meta(), self.Meta(), samples.Full(), named(api.MaxMessage - 8)} {
		lookAtBack(t, x)
	}
	m := samples.New(124)
	parts := map[string]int{}
	for range 4000 {
		x := samples.Pick(m, m.Rich(), m.Table())
		lookAtBack(t, x)
		count(parts, x)
	}
	for _, part := range []string{"enum", "oneof", "map", "packed", "range", "within", "member", "ref", "first"} {
		if parts[part] < 1000 {
			t.Errorf("too few of %s: %v", part, parts)
		}
	}
}

// count counts what a table has.
func count(parts map[string]int, x api.Table) {
	for i, y := range x.Types {
		if bytes.ContainsRune([]byte(y.Name), '.') {
			parts["within"]++
		}
		if y.Enum {
			parts["enum"]++
		}
		parts["oneof"] += len(y.Oneofs)
		parts["range"] += len(y.Reserved)
		for _, f := range y.Fields {
			switch {
			case f.Label == api.Map:
				parts["map"]++
			case f.Label == api.Packed:
				parts["packed"]++
			case f.Label == api.Member:
				parts["member"]++
			case f.Ref > 0:
				parts["ref"]++
			case f.Kind >= api.Enum && i > 0:
				parts["first"]++ // of the type 0, whose index is not told
			}
		}
	}
}

// TestP12_4Kinds has each kind with each label and each key.
func TestP12_4Kinds(t *testing.T) {
	for _, x := range samples.Singles() {
		lookAtBack(t, x)
	}
}

// TestP12_4Compiled has tables that were compiled from files: by what is unpacked of them messages are what they were.
func TestP12_4Compiled(t *testing.T) {
	for _, files := range [][]api.Source{
		{{Name: "a", Text: ""}},
		{{Name: "a", Text: "enum E { A = 0; B = 7; } message M { E e = 1; repeated int32 l = 2; repeated bool p = 3 [packed = false]; map<string, M> m = 4; oneof o { M a = 5; bytes b = 6; } optional float f = 7; reserved 9, 11 to 20; M.I i = 30; message I { double d = 536870911; enum E { X = 0; } E e = 1; } }"}},
		{{Name: "a", Text: `import "b"; message A { B b = 1; B.C c = 2; }`}, {Name: "b", Text: "message B { message C { map<bool, string> m = 1; } }"}},
	} {
		x, f := check.Compile(files)
		if f != (api.Fault{}) {
			t.Fatalf("%v: fault %v", files, f)
		}
		lookAtBack(t, x)
		b, _ := self.Pack(x)
		y, _ := self.Unpack(b)
		m := samples.New(125)
		for index, z := range x.Types {
			for range 50 {
				if z.Enum {
					continue
				}
				a := m.Message(x, index, 3)
				one, e1 := interp.Encode(x, index, a)
				two, e2 := interp.Encode(y, index, a)
				if e1 != e2 || !bytes.Equal(one, two) {
					t.Errorf("%s: %s, error %d, and %s, error %d", shortly(a), brief(one), e1, brief(two), e2)
				}
			}
		}
	}
}

// TestP12_4Meta: Meta is good, and packs itself.
func TestP12_4Meta(t *testing.T) {
	x := self.Meta()
	if !table.Good(x) {
		t.Error("Meta is not good")
	}
	lookAtBack(t, x)
	m, e := self.ToMsg(x)
	if ok, e2 := model.Normal(x, 0, m); e != api.OK || e2 != api.OK || !ok {
		t.Errorf("what Meta says of itself is not normal by it: %s, errors %d, %d", shortly(m), e, e2)
	}
	b, e := self.Pack(x)
	if want, e2 := interp.Encode(x, 0, m); e != api.OK || e2 != api.OK || !bytes.Equal(b, want) {
		t.Errorf("%s, error %d; by itself %s, error %d", brief(b), e, brief(want), e2)
	}
	if back, e := interp.Decode(x, 0, b); e != api.OK || !model.Equal(back, m) {
		t.Errorf("read by itself: %s, error %d", shortly(back), e)
	}
}

// unknownTo tells entries that Table does not know.
func unknownTo(m *samples.Maker) []api.Entry {
	var l []api.Entry
	for range 1 + m.Below(4) {
		l = append(l, samples.Pick(m, m.Entry(), varint(1, uint64(m.Below(300))), api.Entry{Number: 1, Kind: api.Fix32, N: 10}, api.Entry{Number: 1, Kind: api.Fix64, N: 10}, chunk(2, "\x0a\x00"), chunk(m.Below(9)+2, "a")))
	}
	return slices.DeleteFunc(l, func(x api.Entry) bool { return x.Number == 1 && x.Kind == api.Chunk })
}

// TestP12_4Further: what Unpack takes, behind it further entries that Table does not know, is the same table; so it is of messages.
func TestP12_4Further(t *testing.T) {
	m := samples.New(126)
	took := 0
	for range 4000 {
		b := packed(m.Rich())
		for range m.Below(2) {
			b = m.Bent(b)
		}
		l := unknownTo(m)
		more, e := wire.Join(l)
		if e != api.OK {
			t.Fatalf("%v: error %d", l, e)
		}
		x, e := self.Unpack(b)
		if e != api.OK {
			continue
		}
		took++
		lookAtRead(t, slices.Concat(b, more), x)
		y, _ := self.ToMsg(x)
		y.Unknown = l
		lookAtHeard(t, y, x)
	}
	if took < 1500 {
		t.Errorf("%d were taken", took)
	}
}

// anyhow writes a message so that it is read as it, but for what is not known: fields in any order (values of one in theirs), Plain ones several times, the last one being the value, defaults among them, entries that are not known.
func anyhow(m *samples.Maker, index int, x api.Msg) []byte {
	var rows [][][]byte // of each field its entries in order
	for _, f := range meta().Types[index].Fields {
		var row [][]byte
		own, _ := model.Get(x, f.Number)
		vals := own.Vals
		if f.Label == api.Plain && m.Below(3) == 0 {
			vals = append([]api.Val{m.Value(meta(), f.Kind, 0, 0)}, append(vals, api.Val{})[0])
		}
		for _, v := range vals {
			if f.Kind == api.Message {
				row = append(row, chunkOf(f.Number, anyhow(m, f.Ref, v.M[0])))
			} else {
				row = append(row, entry(f, v))
			}
		}
		rows = append(rows, row)
	}
	for range m.Below(3) {
		more, _ := wire.PutEntry(varint(9+m.Below(3), 7))
		rows = append(rows, [][]byte{more})
	}
	var out []byte
	for {
		rows = slices.DeleteFunc(rows, func(row [][]byte) bool { return len(row) == 0 })
		if len(rows) == 0 {
			return out
		}
		i := m.Below(len(rows))
		out, rows[i] = append(out, rows[i][0]...), rows[i][1:]
	}
}

// TestP12_4Anyhow: a table is read out of all bytes that say it.
func TestP12_4Anyhow(t *testing.T) {
	m := samples.New(127)
	others := 0
	for range 2000 {
		x := samples.Pick(m, m.Rich(), m.Table(), all())
		b := anyhow(m, 0, saidNormal(t, x))
		lookAtRead(t, b, x)
		if !bytes.Equal(b, packed(x)) {
			others++
		}
	}
	if others < 1500 {
		t.Errorf("%d were not as they are packed", others)
	}
}

func saidNormal(t *testing.T, x api.Table) api.Msg {
	t.Helper()
	m, e := said(x)
	if e != api.OK {
		t.Fatalf("%s: error %d", brief(x), e)
	}
	return m
}

// TestP12_4Differ: tables that differ have other messages, and other bytes.
func TestP12_4Differ(t *testing.T) {
	m := samples.New(128)
	seen := map[string]api.Table{}
	for range 4000 {
		x := m.BentTable()
		b, e := self.Pack(x)
		if e != api.OK {
			continue
		}
		if y, ok := seen[string(b)]; ok && !same(x, y) {
			t.Errorf("%s and %s: %s", brief(x), brief(y), brief(b))
		}
		seen[string(b)] = x
	}
	if len(seen) < 1500 {
		t.Errorf("%d tables", len(seen))
	}
}
