package delta_test

import (
	"bytes"
	"cmp"
	"encoding/binary"
	"fmt"
	"slices"
	"testing"

	"cartouche/api"
	"cartouche/delta"
	"cartouche/interp"
	"cartouche/model"
	"cartouche/samples"
	"cartouche/table"
	"cartouche/wire"
)

// The chapter a second time: steps are gathered by the type's fields, done by making new messages around the one that is changed, and read byte by byte in the one form that they have.

// isMessage tells whether a good table's type is a message.
func isMessage(x api.Table, index int) bool {
	_, e := model.Typed(x, index, api.Msg{})
	return e == api.OK
}

func isTyped(x api.Table, index int, m api.Msg) bool {
	ok, _ := model.Typed(x, index, m)
	return ok
}

func diffAgain(x api.Table, index int, a, b api.Msg) []delta.Step {
	var l []delta.Step
	for _, f := range x.Types[index].Fields {
		was, wasThere := model.Get(a, f.Number)
		is, isThere := model.Get(b, f.Number)
		switch {
		case wasThere && !isThere:
			l = append(l, take(f.Number))
		case wasThere && goesOn(f):
			for _, s := range diffAgain(x, f.Ref, was.Vals[0].M[0], is.Vals[0].M[0]) {
				s.Path = append([]int{f.Number}, s.Path...)
				l = append(l, s)
			}
		case isThere && told(msg(was)) != told(msg(is)):
			l = append(l, put(is))
		}
	}
	if told(unknown(a.Unknown...)) != told(unknown(b.Unknown...)) {
		l = append(l, keep(b.Unknown))
	}
	return l
}

// replaced tells a message with a field in place of the one of that number.
func replaced(a api.Msg, f api.Field) api.Msg {
	out := model.Clear(a, f.Number)
	out.Fields = append(out.Fields, f)
	slices.SortFunc(out.Fields, func(f, g api.Field) int { return cmp.Compare(f.Number, g.Number) })
	return out
}

func doAgain(x api.Table, index int, a api.Msg, s delta.Step) (api.Msg, api.Errno) {
	if !slices.Contains([]int{1, 2, 3}, s.Do) {
		return api.Msg{}, api.ErrArg
	}
	if len(s.Path) > 0 {
		n := s.Path[0]
		f, e := table.Field(x, index, n)
		own, ok := model.Get(a, n)
		if e != api.OK || !goesOn(f) || !ok || len(own.Vals) != 1 || len(own.Vals[0].M) != 1 {
			return api.Msg{}, api.ErrNone
		}
		s.Path = s.Path[1:]
		inner, e := doAgain(x, f.Ref, own.Vals[0].M[0], s)
		if e != api.OK {
			return api.Msg{}, e
		}
		return replaced(a, field(n, in(inner))), api.OK
	}
	_, isThere := model.Get(a, s.F.Number)
	switch {
	case s.Do == delta.Keep:
		return with(a, s.E...), api.OK
	case s.Do == delta.Put && isTyped(x, index, msg(s.F)):
		return replaced(a, s.F), api.OK
	case s.Do == delta.Put:
		return api.Msg{}, api.ErrType
	case !isThere:
		return api.Msg{}, api.ErrNone
	}
	return model.Clear(a, s.F.Number), api.OK
}

func applyAgain(x api.Table, index int, a api.Msg, l []delta.Step) (api.Msg, api.Errno) {
	if !isTyped(x, index, a) {
		return api.Msg{}, api.ErrType
	}
	var e api.Errno
	for _, s := range l {
		if a, e = doAgain(x, index, a, s); e != api.OK {
			return api.Msg{}, e
		}
	}
	if !isTyped(x, index, a) {
		return api.Msg{}, api.ErrType
	}
	return a, api.OK
}

// endAgain tells the type at a path's end.
func endAgain(x api.Table, index int, path []int) (int, bool) {
	for _, n := range path {
		f, e := table.Field(x, index, n)
		if e != api.OK || !goesOn(f) {
			return 0, false
		}
		index = f.Ref
	}
	return index, true
}

func bytesAgain(x api.Table, index int, l []delta.Step) ([]byte, api.Errno) {
	var out []byte
	for _, s := range l {
		if s.Do < 1 || s.Do > 3 {
			return nil, api.ErrArg
		}
		at, ok := endAgain(x, index, s.Path)
		if !ok {
			return nil, api.ErrNone
		}
		var path, what []byte
		for _, n := range s.Path {
			path = binary.AppendUvarint(path, uint64(n))
		}
		normal, _ := model.Normal(x, at, msg(s.F))
		f, ofF := interp.Encode(x, at, msg(s.F))
		rest, ofRest := wire.Join(s.E)
		switch {
		case s.Do == 1 && !isTyped(x, at, msg(s.F)):
			return nil, api.ErrType
		case s.Do == 1 && !normal:
			return nil, api.ErrRange
		case s.Do == 1 && ofF != api.OK:
			return nil, ofF
		case s.Do == 1:
			what = all([]byte{18}, framed(f))
		case s.Do == 2 && (s.F.Number < 1 || s.F.Number > 536870911):
			return nil, api.ErrNumber
		case s.Do == 2:
			what = binary.AppendUvarint([]byte{24}, uint64(s.F.Number))
		case ofRest != api.OK:
			return nil, ofRest
		default:
			what = all([]byte{34}, framed(rest))
		}
		out = all(out, []byte{byte(8*s.Do + 2)}, framed(all([]byte{10}, framed(path), what)))
	}
	return out, api.OK
}

// strict reads bytes in the one form that they have: what it tells holds, if it is not bad behind.
type strict struct {
	b   []byte
	bad bool
}

func (r *strict) varint() uint64 {
	n, size := binary.Uvarint(r.b)
	if size <= 0 || !bytes.Equal(r.b[:size], binary.AppendUvarint(nil, n)) {
		r.b, r.bad = nil, true
		return 0
	}
	r.b = r.b[size:]
	return n
}

func (r *strict) chunk(number uint64) []byte {
	r.bad = r.varint() != 8*number+2 || r.bad
	size := r.varint()
	if size > uint64(len(r.b)) {
		r.b, r.bad = nil, true
		return nil
	}
	c := r.b[:size]
	r.b = r.b[size:]
	return c
}

func readAgain(x api.Table, index int, b []byte) ([]delta.Step, api.Errno) {
	var l []delta.Step
	for r := (&strict{b: b}); len(r.b) > 0; {
		do := uint64(r.b[0] / 8)
		in := &strict{b: r.chunk(do)}
		path := &strict{b: in.chunk(1)}
		s := delta.Step{Do: int(do)}
		for len(path.b) > 0 {
			s.Path = append(s.Path, int(path.varint()))
		}
		at, ok := endAgain(x, index, s.Path)
		if !ok || r.bad || in.bad || path.bad {
			return nil, api.ErrSyntax
		}
		switch do {
		case 1:
			c := in.chunk(2)
			m, e := interp.Decode(x, at, c)
			if normal, _ := model.Normal(x, at, m); e != api.OK || !normal || len(m.Fields) != 1 || len(m.Unknown) > 0 {
				return nil, api.ErrSyntax
			}
			if again, e := interp.Encode(x, at, m); e != api.OK || !bytes.Equal(again, c) {
				return nil, api.ErrSyntax
			}
			s.F = m.Fields[0]
		case 2:
			in.bad = in.varint() != 24 || in.bad
			n := in.varint()
			in.bad = n < 1 || n > 536870911 || in.bad
			s.F.Number = int(n)
		case 3:
			c := in.chunk(4)
			rest, e := wire.Split(c)
			again, _ := wire.Join(rest)
			in.bad = e != api.OK || !bytes.Equal(again, c) || in.bad
			s.E = rest
		default:
			return nil, api.ErrSyntax
		}
		if in.bad || len(in.b) > 0 {
			return nil, api.ErrSyntax
		}
		l = append(l, s)
	}
	return l, api.OK
}

func (g given) again() (out answers) {
	if !isMessage(g.x, g.index) {
		return answers{ofDiff: api.ErrArg, ofApply: api.ErrArg, ofBytes: api.ErrArg, ofRead: api.ErrArg}
	}
	if out.ofDiff = api.ErrType; isTyped(g.x, g.index, g.a) && isTyped(g.x, g.index, g.b) {
		out.diff, out.ofDiff = diffAgain(g.x, g.index, g.a, g.b), api.OK
	}
	out.applied, out.ofApply = applyAgain(g.x, g.index, g.a, g.steps)
	out.bytes, out.ofBytes = bytesAgain(g.x, g.index, g.steps)
	out.read, out.ofRead = readAgain(g.x, g.index, g.raw)
	return out
}

// lookAgain sees that all calls answer what the second reading does, and tells it.
func lookAgain(t *testing.T, g given) answers {
	t.Helper()
	got, want := g.ask(), g.again()
	if got.told() != want.told() {
		t.Errorf("%s; %s; steps %s; bytes % d:\n%s\nwant %s\n%.300s", shortly(g.a), shortly(g.b), brief(toldSteps(g.steps)), g.raw, brief(got.told()), brief(want.told()), fmt.Sprintf("%+v", g.x))
	}
	return want
}

// TestP21_1P21_2P21_3Chance has many tables, messages, steps and bytes; each error and each answer must come often.
func TestP21_1P21_2P21_3Chance(t *testing.T) {
	m := samples.New(2111)
	counts := map[string]int{}
	for range 4000 {
		g := samples.Pick(m, someGiven, someGiven, anyGiven)(m)
		l := lookAgain(t, g)
		for i, e := range l.errors() {
			counts[fmt.Sprint([]string{"diff ", "apply ", "bytes ", "read "}[i], int(e))]++
		}
		for _, s := range l.diff {
			counts[fmt.Sprint("step ", s.Do)]++
			counts[fmt.Sprint("within ", min(len(s.Path), 2))]++
		}
		counts[fmt.Sprint("none ", len(l.diff) == 0)]++
		counts[fmt.Sprint("some read ", len(l.read) > 1)]++
	}
	for s, least := range map[string]int{
		"diff 0": 3000, "diff 10": 150, "diff 18": 200, "apply 0": 2000, "apply 10": 150, "apply 18": 200, "apply 20": 300, "bytes 0": 2000, "bytes 5": 8, "bytes 6": 1, "bytes 7": 300, "bytes 10": 50, "bytes 18": 200, "bytes 20": 100,
		"read 0": 3000, "read 11": 150, "read 18": 200, "step 1": 3000, "step 2": 2000, "step 3": 1000, "within 0": 5000, "within 1": 1000, "within 2": 1000, "none true": 500, "some read true": 2000,
	} {
		if counts[s] < least {
			t.Errorf("too few of %s: %v", s, counts)
		}
	}
}

// TestP21_3BentBytes has bytes of steps with one thing after the other changed: what is read then is what the one form is.
func TestP21_3BentBytes(t *testing.T) {
	m := samples.New(2112)
	counts := map[api.Errno]int{}
	for range 800 {
		g := someGiven(m)
		whole := g.raw
		for range 20 {
			if g.raw = m.Bent(whole); m.Below(4) == 0 {
				g.raw = m.Bent(g.raw)
			}
			got, e := delta.Read(g.x, g.index, g.raw)
			want, e2 := readAgain(g.x, g.index, g.raw)
			if e != e2 || toldSteps(got) != toldSteps(want) {
				t.Errorf("Read(% d): %s, error %d; want %s, error %d", g.raw, brief(toldSteps(got)), e, brief(toldSteps(want)), e2)
			}
			counts[e]++
		}
	}
	if counts[api.OK] < 2000 || counts[api.ErrSyntax] < 10000 {
		t.Errorf("answers of Read: %v", counts)
	}
}
