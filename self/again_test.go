package self_test

import (
	"encoding/binary"
	"reflect"
	"slices"
	"strings"
	"testing"

	"cartouche/api"
	"cartouche/interp"
	"cartouche/model"
	"cartouche/samples"
	"cartouche/self"
	"cartouche/table"
)

// The chapter a second time: a field of the table of tables stands for the part of api's structs that has its name.

// partOf tells the part of a struct for which a field stands.
func partOf(x reflect.Value, f api.FieldType) reflect.Value {
	return x.FieldByName(strings.ToUpper(f.Name[:1]) + f.Name[1:])
}

// saidWhole tells the message that says a struct by a type, each field there: not a normal one.
func saidWhole(index int, x reflect.Value) api.Msg {
	var out api.Msg
	for _, f := range meta().Types[index].Fields {
		own := api.Field{Number: f.Number}
		part := partOf(x, f)
		if f.Label != api.Repeated {
			own.Vals = []api.Val{valSaid(f, part)}
		} else {
			for i := range part.Len() {
				own.Vals = append(own.Vals, valSaid(f, part.Index(i)))
			}
		}
		out.Fields = append(out.Fields, own)
	}
	return out
}

func valSaid(f api.FieldType, part reflect.Value) api.Val {
	switch f.Kind {
	case api.Message:
		return in(saidWhole(f.Ref, part))
	case api.String:
		return str(part.String())
	case api.Bool:
		return num(map[bool]int64{true: 1}[part.Bool()])
	}
	return num(part.Int())
}

// said tells what ToMsg must tell.
func said(x api.Table) (api.Msg, api.Errno) {
	if !table.Good(x) {
		return api.Msg{}, api.ErrArg
	}
	m, e := model.Settle(meta(), 0, saidWhole(0, reflect.ValueOf(x)))
	if e != api.OK {
		panic(e)
	}
	return m, api.OK
}

// hear puts what a typed message says into a struct.
func hear(index int, m api.Msg, x reflect.Value) {
	l := meta().Types[index].Fields
	for _, own := range m.Fields {
		f := l[slices.IndexFunc(l, func(f api.FieldType) bool { return f.Number == own.Number })]
		part := partOf(x, f)
		if f.Label != api.Repeated {
			hearVal(f, own.Vals[0], part)
			continue
		}
		part.Set(reflect.MakeSlice(part.Type(), len(own.Vals), len(own.Vals)))
		for i, v := range own.Vals {
			hearVal(f, v, part.Index(i))
		}
	}
}

func hearVal(f api.FieldType, v api.Val, part reflect.Value) {
	switch f.Kind {
	case api.Message:
		hear(f.Ref, v.M[0], part)
	case api.String:
		part.SetString(string(v.B))
	case api.Bool:
		part.SetBool(v.N == 1)
	default:
		part.SetInt(int64(v.N))
	}
}

// heard tells what FromMsg must tell.
func heard(m api.Msg) (api.Table, api.Errno) {
	if ok, e := model.Typed(meta(), 0, m); !ok || e != api.OK {
		return api.Table{}, api.ErrType
	}
	var x api.Table
	hear(0, m, reflect.ValueOf(&x).Elem())
	if !table.Good(x) {
		return api.Table{}, api.ErrArg
	}
	return x, api.OK
}

// packed tells what Pack must tell of a good table, if it is not too big.
func packed(x api.Table) []byte {
	m, e := said(x)
	if e != api.OK {
		panic(e)
	}
	return written(0, m)
}

func written(index int, m api.Msg) []byte {
	var out []byte
	l := meta().Types[index].Fields
	for _, own := range m.Fields {
		f := l[slices.IndexFunc(l, func(f api.FieldType) bool { return f.Number == own.Number })]
		for _, v := range own.Vals {
			out = append(out, entry(f, v)...)
		}
	}
	return out
}

// entry tells a value's bytes, the tag ahead of them.
func entry(f api.FieldType, v api.Val) []byte {
	switch f.Kind {
	case api.Message:
		return chunkOf(f.Number, written(f.Ref, v.M[0]))
	case api.String:
		return chunkOf(f.Number, v.B)
	}
	return binary.AppendUvarint([]byte{byte(f.Number << 3)}, v.N)
}

func chunkOf(number int, b []byte) []byte {
	return append(binary.AppendUvarint([]byte{byte(number<<3 | api.Chunk)}, uint64(len(b))), b...)
}

func lookAtSaidAgain(t *testing.T, x api.Table) api.Errno {
	t.Helper()
	m, e := self.ToMsg(x)
	want, wantError := said(x)
	if e != wantError || told(m) != told(want) {
		t.Errorf("ToMsg(%s): %s, error %d; want %s, error %d", brief(x), shortly(m), e, shortly(want), wantError)
	}
	b, e := self.Pack(x)
	var bytes []byte
	if wantError == api.OK {
		if bytes = packed(x); len(bytes) > api.MaxMessage {
			bytes, wantError = nil, api.ErrTooBig
		}
	}
	if e != wantError || string(b) != string(bytes) {
		t.Errorf("Pack(%s): %s, error %d; want %s, error %d", brief(x), brief(b), e, brief(bytes), wantError)
	}
	return e
}

func lookAtHeardAgain(t *testing.T, m api.Msg) api.Errno {
	t.Helper()
	x, e := self.FromMsg(m)
	if want, wantError := heard(m); e != wantError || !same(x, want) {
		t.Errorf("FromMsg(%s): %s, error %d; want %s, error %d", shortly(m), brief(x), e, brief(want), wantError)
	}
	return e
}

func lookAtReadAgain(t *testing.T, b []byte) api.Errno {
	t.Helper()
	x, e := self.Unpack(b)
	var want api.Table
	m, wantError := interp.Decode(meta(), 0, b)
	if wantError == api.OK {
		want, wantError = heard(m)
	}
	if e != wantError || !same(x, want) {
		t.Errorf("Unpack(%s): %s, error %d; want %s, error %d", brief(b), brief(x), e, brief(want), wantError)
	}
	return e
}

// TestP12_1Again has good tables, and others.
func TestP12_1Again(t *testing.T) {
	m := samples.New(121)
	counts := map[api.Errno]int{}
	for range 4000 {
		counts[lookAtSaidAgain(t, m.BentTable())]++
		counts[lookAtSaidAgain(t, m.Table())]++
		counts[lookAtSaidAgain(t, m.WildTable())]++
		counts[lookAtSaidAgain(t, m.Spoiled(m.Table()))]++
	}
	if counts[api.OK] < 5000 || counts[api.ErrArg] < 5000 {
		t.Errorf("errors: %v", counts)
	}
}

// TestP12_2Again has messages of tables that are good and of others, normal and not, and some with things changed by chance.
func TestP12_2Again(t *testing.T) {
	m := samples.New(122)
	counts := map[api.Errno]int{}
	for range 2500 {
		whole := saidWhole(0, reflect.ValueOf(samples.Pick(m, m.Rich(), m.BentTable(), m.Table())))
		counts[lookAtHeardAgain(t, whole)]++
		counts[lookAtHeardAgain(t, m.Changed(whole))]++
		normal, e := said(m.Rich())
		if e != api.OK {
			t.Fatalf("error %d", e)
		}
		counts[lookAtHeardAgain(t, normal)]++
		counts[lookAtHeardAgain(t, m.Changed(normal))]++
		counts[lookAtHeardAgain(t, m.Changed(m.Changed(normal)))]++
		counts[lookAtHeardAgain(t, m.Message(meta(), 0, 3))]++
	}
	if counts[api.OK] < 4000 || counts[api.ErrArg] < 1500 || counts[api.ErrType] < 4000 {
		t.Errorf("errors: %v", counts)
	}
}

// TestP12_2Places changes each number at each place of a message, to the edges of the kinds and to what a shorter number would take for the same.
func TestP12_2Places(t *testing.T) {
	whole := saidWhole(0, reflect.ValueOf(all()))
	places := 0
	samples.Touch{Bits: func(*uint64) { places++ }}.Message(&whole)
	counts := map[api.Errno]int{}
	for place := range places {
		for _, change := range []func(n uint64) uint64{
			func(n uint64) uint64 { return 0 }, func(n uint64) uint64 { return n + 1 }, func(n uint64) uint64 { return n - 1 }, func(n uint64) uint64 { return n + 1<<8 }, func(n uint64) uint64 { return n + 1<<16 }, func(n uint64) uint64 { return n + 1<<31 },
			func(n uint64) uint64 { return n + 1<<32 }, func(n uint64) uint64 { return n + 1<<63 }, func(n uint64) uint64 { return 1<<31 - 1 }, func(n uint64) uint64 { return 1 << 31 }, func(n uint64) uint64 { return 1<<32 - 1 }, func(n uint64) uint64 { return 1<<64 - 1 },
		} {
			bent, at := samples.Copy(whole), 0
			samples.Touch{Bits: func(n *uint64) {
				if at == place {
					*n = change(*n)
				}
				at++
			}}.Message(&bent)
			counts[lookAtHeardAgain(t, bent)]++
		}
	}
	if counts[api.OK] < 100 || counts[api.ErrArg] < 500 || counts[api.ErrType] < 500 {
		t.Errorf("errors: %v", counts)
	}
}

// TestP12_3Again has bytes by chance.
func TestP12_3Again(t *testing.T) {
	m := samples.New(123)
	counts := map[api.Errno]int{}
	for range 6000 {
		b := packed(m.Rich())
		for range m.Below(3) {
			b = m.Bent(b)
		}
		if m.Below(4) == 0 {
			b = m.Bytes(meta(), 0, 3)
		}
		counts[lookAtReadAgain(t, b)]++
	}
	for _, e := range []api.Errno{api.OK, api.ErrArg, api.ErrEnd, api.ErrKind, api.ErrText} {
		if counts[e] < 20 {
			t.Errorf("errors: %v", counts)
		}
	}
}
