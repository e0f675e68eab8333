package vm_test

import (
	"bytes"
	"slices"
	"testing"

	"cartouche/api"
	"cartouche/model"
	"cartouche/plan"
	"cartouche/samples"
	"cartouche/scalar"
	"cartouche/vm"
	"cartouche/wire"
)

// again reads the chapter's words a second time: each message by a call of its own, each fault handed up, each field looked for by going through all.
type again struct {
	blocks []plan.Block
	steps  int
}

// place is where bytes are read.
type place struct {
	b  []byte
	at int
}

func (p *place) isAtEnd() bool { return p.at >= len(p.b) }

func (p *place) chunk() (b []byte, e api.Errno) {
	b, next, e := wire.GetChunk(p.b, p.at)
	p.at = next
	return b, e
}

func (p *place) value(kind int) (v api.Val, e api.Errno) {
	v, next, e := scalar.Get(kind, p.b, p.at)
	p.at = next
	return v, e
}

// entry reads the rest of one by laying its tag ahead of the bytes that are left.
func (p *place) entry(ahead int) (api.Entry, api.Errno) {
	head := digits(uint64(ahead))
	x, next, e := wire.GetEntry(all(head, p.b[p.at:]), 0)
	p.at += next - len(head)
	return x, e
}

func (g *again) read(index, depth int, b []byte, m api.Msg) (api.Msg, api.Errno) {
	own := g.blocks[index]
	p := &place{b: b}
	ahead, value := 0, api.Val{}
	for next := 0; ; {
		s := own.Dec[next]
		next++
		g.steps++
		var e api.Errno
		switch s.Op {
		case plan.Tag:
			if p.isAtEnd() {
				return m, api.OK
			}
			var number, kind int
			number, kind, p.at, e = wire.GetTag(p.b, p.at)
			ahead = number*8 + kind
		case plan.Case:
			if ahead != s.A {
				next = s.B
			}
		case plan.Jump:
			next = s.A
			for _, r := range own.Rows {
				if r.Tag == ahead {
					next = r.To
				}
			}
		case plan.Go:
			next = s.A
		case plan.Read, plan.ReadSet, plan.ReadAdd:
			value, e = p.value(s.A)
			if s.Op == plan.ReadSet {
				put(&m, field(s.B, value))
			} else if s.Op == plan.ReadAdd {
				behind(&m, s.B, value)
			}
		case plan.Sym:
			e = g.sym(s.A, value)
		case plan.Set:
			put(&m, field(s.A, value))
		case plan.Add:
			behind(&m, s.A, value)
		case plan.Clear:
			m = model.Clear(m, s.A)
		case plan.Keep:
			var x api.Entry
			x, e = p.entry(ahead)
			m.Unknown = append(m.Unknown, x)
		case plan.Msg:
			e = g.message(s, depth, p, &m)
		case plan.Row:
			e = g.row(s, p, &m)
		case plan.Pair:
			e = g.pair(s, depth, p, &m)
		}
		if e != api.OK {
			return api.Msg{}, e
		}
	}
}

// put lays a field in place of the one that is there, and sorts.
func put(m *api.Msg, f api.Field) {
	m.Fields = slices.DeleteFunc(m.Fields, func(o api.Field) bool { return o.Number == f.Number })
	m.Fields = append(m.Fields, f)
	slices.SortFunc(m.Fields, func(a, b api.Field) int { return a.Number - b.Number })
}

func behind(m *api.Msg, number int, l ...api.Val) {
	f, _ := model.Get(*m, number)
	put(m, api.Field{Number: number, Keys: f.Keys, Vals: append(f.Vals, l...)})
}

func (g *again) sym(block int, v api.Val) api.Errno {
	for _, r := range g.blocks[block].Rows {
		if int64(r.Tag) == int64(v.N) {
			return api.OK
		}
	}
	return api.ErrSymbol
}

func (g *again) message(s plan.Ins, depth int, p *place, m *api.Msg) api.Errno {
	b, e := p.chunk()
	if e != api.OK {
		return e
	}
	if depth+1 > 16 {
		return api.ErrTooDeep
	}
	start := api.Msg{}
	if f, ok := model.Get(*m, s.A); ok && s.C == 0 && len(f.Vals) == 1 && len(f.Vals[0].M) == 1 {
		start = f.Vals[0].M[0]
	}
	within, e := g.read(s.B, depth+1, b, start)
	if s.C == 1 {
		behind(m, s.A, in(within))
	} else {
		put(m, field(s.A, in(within)))
	}
	return e
}

func (g *again) row(s plan.Ins, p *place, m *api.Msg) api.Errno {
	b, e := p.chunk()
	if e != api.OK {
		return e
	}
	behind(m, s.A)
	for row := (&place{b: b}); !row.isAtEnd(); {
		v, e := row.value(s.B)
		if e == api.OK && s.C > 0 {
			e = g.sym(s.C-1, v)
		}
		if e != api.OK {
			return e
		}
		behind(m, s.A, v)
	}
	return api.OK
}

func (g *again) pair(s plan.Ins, depth int, p *place, m *api.Msg) api.Errno {
	b, e := p.chunk()
	if e != api.OK {
		return e
	}
	c := &place{b: b}
	var key api.Val
	var val *api.Val
	for !c.isAtEnd() {
		number, kind, next, e := wire.GetTag(c.b, c.at)
		if e != api.OK {
			return e
		}
		c.at = next
		switch {
		case number == 1 && kind == ownWire(s.B):
			key, e = c.value(s.B)
		case number == 2 && kind == ownWire(s.C):
			var v api.Val
			v, e = g.pairValue(s, depth, c)
			val = &v
		default:
			_, e = c.entry(number*8 + kind)
		}
		if e != api.OK {
			return e
		}
	}
	if val == nil {
		val = &api.Val{}
		if s.C == api.Message {
			empty := &place{b: []byte{0}}
			if *val, e = g.pairValue(s, depth, empty); e != api.OK {
				return e
			}
		}
	}
	putKey(m, s, key, *val)
	return api.OK
}

func (g *again) pairValue(s plan.Ins, depth int, c *place) (api.Val, api.Errno) {
	if s.C == api.Message {
		b, e := c.chunk()
		if e == api.OK && depth+1 > 16 {
			e = api.ErrTooDeep
		}
		if e != api.OK {
			return api.Val{}, e
		}
		m, e := g.read(s.D, depth+1, b, api.Msg{})
		return in(m), e
	}
	v, e := c.value(s.C)
	if e == api.OK && s.C == api.Enum {
		e = g.sym(s.D, v)
	}
	return v, e
}

func putKey(m *api.Msg, s plan.Ins, key, val api.Val) {
	f, _ := model.Get(*m, s.A)
	if len(f.Keys) != len(f.Vals) {
		f = api.Field{}
	}
	f.Number = s.A
	isSo := func(want int) func(api.Val) bool {
		return func(k api.Val) bool {
			order, e := scalar.Compare(s.B, k, key)
			return e == api.OK && order == want
		}
	}
	if i := slices.IndexFunc(f.Keys, isSo(0)); i >= 0 {
		f.Vals[i] = val
		put(m, f)
		return
	}
	i := slices.IndexFunc(f.Keys, isSo(1))
	if i < 0 {
		i = len(f.Keys)
	}
	f.Keys, f.Vals = slices.Insert(f.Keys, i, key), slices.Insert(f.Vals, i, val)
	put(m, f)
}

// write tells what a block writes: the bytes of a step behind each other, and what goes past the bound is seen behind it.
func (g *again) write(index, most int, m api.Msg) ([]byte, api.Errno) {
	var out []byte
	var own *api.Field
	l := g.blocks[index].Enc
	for next := 0; ; {
		s := l[next]
		next++
		var b []byte
		var e api.Errno
		switch s.Op {
		case plan.End:
			return out, api.OK
		case plan.Has:
			f, ok := model.Get(m, s.A)
			if ok {
				own = &f
			}
			if !ok || s.C > 0 && len(f.Vals) == 1 && told(msg(field(1, f.Vals[0]))) == told(msg(field(1, num(0)))) {
				next = s.B
			}
		case plan.Put:
			b = digits(uint64(s.A))
		case plan.PutVal:
			if out = append(out, digits(uint64(s.A))...); len(out) > most {
				return nil, api.ErrTooBig
			}
			b, e = g.one(s.B, 0, most, own)
		case plan.Val:
			b, e = g.one(s.A, 0, most, own)
		case plan.Sub:
			b, e = g.one(api.Message, s.A, most, own)
		case plan.Rest:
			b, e = wire.Join(m.Unknown)
		default:
			b, e = g.writeAll(s, most, own)
		}
		if e != api.OK {
			return nil, e
		}
		if out = append(out, b...); len(out) > most {
			return nil, api.ErrTooBig
		}
	}
}

func (g *again) one(kind, block, most int, own *api.Field) ([]byte, api.Errno) {
	if own == nil || len(own.Vals) != 1 {
		return nil, api.ErrType
	}
	return g.value(kind, block, most, own.Vals[0])
}

func (g *again) value(kind, block, most int, v api.Val) ([]byte, api.Errno) {
	if kind != api.Message {
		return scalar.Put(kind, v)
	}
	if len(v.M) != 1 {
		return nil, api.ErrType
	}
	b, e := g.write(block, most, v.M[0])
	return chunk(b), e
}

// writeAll tells what Each, Run and Pairs write.
func (g *again) writeAll(s plan.Ins, most int, own *api.Field) ([]byte, api.Errno) {
	if own == nil || s.Op == plan.Pairs && len(own.Keys) != len(own.Vals) {
		return nil, api.ErrType
	}
	var out, row []byte
	for i, v := range own.Vals {
		var key, b []byte
		var e api.Errno
		kind, block := s.B, s.C
		if s.Op == plan.Pairs {
			key, e = scalar.Put(s.B, own.Keys[i])
			kind, block = s.C, s.D
		}
		if e == api.OK {
			b, e = g.value(kind, block, most, v)
		}
		if e != api.OK {
			return nil, e
		}
		switch s.Op {
		case plan.Each:
			out = all(out, digits(uint64(s.A)), b)
		case plan.Run:
			row = all(row, b)
			out = all(digits(uint64(s.A)), chunk(row))
		case plan.Pairs:
			out = all(out, digits(uint64(s.A)), chunk(tag(1, ownWire(s.B)), key, tag(2, ownWire(kind)), b))
		}
	}
	return out, api.OK
}

// lookAgainAtBytes holds Decode and Steps against the second reading.
func lookAgainAtBytes(t *testing.T, p plan.Program, index int, b []byte) api.Errno {
	t.Helper()
	g := again{blocks: p.Blocks}
	want, wantE := api.Msg{}, api.ErrTooBig
	if len(b) <= 65536 {
		want, wantE = g.read(index, 1, b, api.Msg{})
	}
	if wantE != api.OK {
		want, g.steps = api.Msg{}, 0
	}
	got, e := vm.Decode(p, index, b)
	if e != wantE || told(got) != told(want) {
		t.Errorf("%s\nDecode(%s): %s, error %d; want %s, error %d; of %s", dec(p, index), short(b), told(got), e, told(want), wantE, brief(p))
	}
	if n, e := vm.Steps(p, index, b); e != wantE || n != g.steps {
		t.Errorf("%s\nSteps(%s): %d, error %d; want %d, error %d; of %s", dec(p, index), short(b), n, e, g.steps, wantE, brief(p))
	}
	return e
}

// lookAgainAtMessage holds Encode and Size against it.
func lookAgainAtMessage(t *testing.T, p plan.Program, index int, m api.Msg) api.Errno {
	t.Helper()
	g := again{blocks: p.Blocks}
	want, wantE := []byte(nil), api.ErrTooDeep
	size, sizeE := []byte(nil), api.ErrTooDeep
	if model.Depth(m) <= 16 {
		want, wantE = g.write(index, 65536, m)
		size, sizeE = g.write(index, 1<<24, m)
	}
	got, e := vm.Encode(p, index, m)
	if e != wantE || !bytes.Equal(got, want) {
		t.Errorf("%s\nEncode(%s): %s, error %d; want %s, error %d; of %s", enc(p, index), shortly(m), short(got), e, short(want), wantE, brief(p))
	}
	if n, e := vm.Size(p, index, m); e != sizeE || n != len(size) {
		t.Errorf("%s\nSize(%s): %d, error %d; want %d, error %d; of %s", enc(p, index), shortly(m), n, e, len(size), sizeE, brief(p))
	}
	return e
}

// someValid tells a valid program of any sort, its block 0 a message's.
func someValid(m *samples.Maker) plan.Program {
	return samples.Pick(m, m.Program, m.Program, m.Knotted, mixing)()
}

// mixing is a program of few fields in which each step may come to each field.
func mixing() plan.Program {
	return plan.Program{Blocks: []plan.Block{
		block(`Tag; Case 8 4; Pair 1 Int32 Bool 0; Go 0; Case 16 7; Pair 1 Bool Int32 0; Go 0; Case 24 10; Pair 1 String Message 0; Go 0; Case 32 13; Pair 1 Uint64 Bytes 0; Go 0; Case 40 17; Read Int64; Add 1; Go 0; Case 48 20; Row 1 Enum 2; Go 0;
			Case 58 23; Msg 1 0 0; Go 0; Case 64 26; Msg 1 0 1; Go 0; Case 72 29; Clear 1; Go 0; Case 80 32; Set 1; Go 0; Case 88 35; Pair 2 Int64 Enum 1; Go 0; Case 96 38; Pair 2 Sint32 Enum 1; Go 0; Case 104 41; Msg 2 0 2; Go 0; Keep; Go 0`,
			"Has 1 5 0; Pairs 10 Int32 Message 0; Each 18 Message 0; Sub 0; Run 26 Enum; Has 2 8 Enum; PutVal 32 Enum; Pairs 10 String Bytes 0; Rest; End", ""),
		block("", "", "0 0; 5 0; 2147483647 0"),
	}}
}

// texts is a program that writes texts.
func texts() plan.Program {
	return plan.Program{Blocks: []plan.Block{block("Tag; Go 0", "Has 1 2 0; Each 10 String 0; Has 2 4 0; Pairs 18 String String 0; Has 3 6 String; PutVal 26 String; Has 4 8 0; Pairs 26 String Message 0; Rest; End", "")}}
}

func TestReadAgain(t *testing.T) {
	m := samples.New(1591)
	counts := map[api.Errno]int{}
	for range 9000 {
		p := valid(t, someValid(m))
		c := chance{m, p.Blocks}
		for range 4 {
			b := c.bytes(0, samples.Pick(m, 1, 2, 2, 3))
			for range m.Below(4) * m.Below(2) {
				b = m.Bent(b)
			}
			counts[lookAgainAtBytes(t, p, 0, b)]++
		}
	}
	for range 3000 {
		p := mixing()
		b := chance{m, p.Blocks}.bytes(0, 3)
		counts[lookAgainAtBytes(t, p, 0, all(b, b, inside(7, 10+m.Below(7), b)))]++
	}
	for _, e := range []api.Errno{api.OK, api.ErrTooDeep, api.ErrEnd, api.ErrVarint, api.ErrNumber, api.ErrKind, api.ErrRange, api.ErrText, api.ErrSymbol} {
		if counts[e] < 20 {
			t.Errorf("error %d was seen %d times", e, counts[e])
		}
	}
	if counts[api.OK] < 8000 {
		t.Errorf("%d byte strings were read", counts[api.OK])
	}
}

func TestWriteAgain(t *testing.T) {
	m := samples.New(1592)
	counts := map[api.Errno]int{}
	for range 8000 {
		p := valid(t, samples.Pick(m, someValid(m), someValid(m), someValid(m), texts()))
		c := chance{m, p.Blocks}
		for range 4 {
			a := c.message(0, 3)
			for range m.Below(3) * m.Below(2) {
				a = m.Changed(a)
			}
			counts[lookAgainAtMessage(t, p, 0, samples.Pick(m, a, a, a, a, m.Wild(3)))]++
		}
	}
	for _, e := range []api.Errno{api.OK, api.ErrNumber, api.ErrKind, api.ErrRange, api.ErrText, api.ErrType} {
		if counts[e] < 20 {
			t.Errorf("error %d was seen %d times", e, counts[e])
		}
	}
	if counts[api.OK] < 6000 {
		t.Errorf("%d messages were written: %v", counts[api.OK], counts)
	}
}
