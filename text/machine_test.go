package text_test

import (
	"bytes"
	"math/big"
	"regexp"
	"slices"
	"strconv"

	"cartouche/api"
	"cartouche/lex"
	"cartouche/quote"
	"cartouche/table"
)

// machine reads the chapter's words a second time: word by word, with a pile of what must come next, the next one last.
type machine struct {
	x    api.Table
	pile []step
}

// step takes a word: it tells the fault that is seen at it.
type step func(w lex.Word) api.Fault

var fine api.Fault

func wrong(w lex.Word, e api.Errno) api.Fault {
	if e == api.OK {
		return fine
	}
	return api.Fault{Code: e, Line: w.Line, Col: w.Col}
}

// readAgain is the second Parse.
func readAgain(x api.Table, index int, s string) (api.Msg, api.Fault) {
	if !table.Good(x) || index < 0 || index >= len(x.Types) || x.Types[index].Enum {
		return api.Msg{}, api.Fault{Code: api.ErrArg}
	}
	l, f := lex.Split(s)
	var out api.Msg
	m := machine{x: x}
	m.next(m.body(index, 1, &out))
	for _, w := range l {
		last := m.pile[len(m.pile)-1]
		m.pile = m.pile[:len(m.pile)-1]
		if f = last(w); f != fine {
			break
		}
	}
	if f != fine {
		return api.Msg{}, f
	}
	return out, fine
}

func (m *machine) next(l ...step) {
	slices.Reverse(l)
	m.pile = append(m.pile, l...)
}

func is(w lex.Word, sign string) bool { return w.Kind == lex.Sign && w.S == sign }

func sign(s string) step {
	return func(w lex.Word) api.Fault {
		if !is(w, s) {
			return wrong(w, api.ErrSyntax)
		}
		return fine
	}
}

func (m *machine) body(index, depth int, to *api.Msg) step {
	var again step
	again = func(w lex.Word) api.Fault {
		if depth == 1 && w.Kind == lex.End || depth > 1 && is(w, "}") {
			return fine
		}
		m.next(again)
		switch {
		case is(w, "?"):
			m.entry(to)
		case w.Kind == lex.Name:
			f, e := table.Named(m.x, index, w.S)
			if e != api.OK {
				return wrong(w, api.ErrName)
			}
			if isTaken(m.x.Types[index], f, *to) {
				return wrong(w, api.ErrDup)
			}
			m.field(f, depth, to)
		default:
			return wrong(w, api.ErrSyntax)
		}
		return fine
	}
	return again
}

func isTaken(x api.Type, f api.FieldType, m api.Msg) bool {
	for _, other := range x.Fields {
		isThere := slices.ContainsFunc(m.Fields, func(o api.Field) bool { return o.Number == other.Number })
		if isThere && (other.Name == f.Name || f.Label == api.Member && other.Label == api.Member && f.Oneof == other.Oneof) {
			return true
		}
	}
	return false
}

// own tells a message's field with that number: if it was not there, it is now, at its place.
func own(m *api.Msg, number int) *api.Field {
	at := 0
	for at < len(m.Fields) && m.Fields[at].Number < number {
		at++
	}
	if at == len(m.Fields) || m.Fields[at].Number > number {
		m.Fields = slices.Insert(m.Fields, at, api.Field{Number: number})
	}
	return &m.Fields[at]
}

func (m *machine) field(f api.FieldType, depth int, to *api.Msg) {
	own(to, f.Number)
	put := func(v api.Val) api.Errno {
		o := own(to, f.Number)
		o.Vals = append(o.Vals, v)
		return api.OK
	}
	item := m.value(f.Kind, f.Ref, depth, put)
	switch {
	case f.Label == api.Map:
		m.next(sign("<"), m.many(">", m.pair(f, depth, to)))
	case f.Label == api.Repeated || f.Label == api.Packed:
		m.next(sign("["), m.many("]", item))
	case f.Kind == api.Message:
		m.next(item)
	default:
		m.next(sign(":"), item)
	}
}

// many has a step again and again, till a sign ends it.
func (m *machine) many(end string, one step) step {
	var again step
	again = func(w lex.Word) api.Fault {
		if is(w, end) {
			return fine
		}
		m.next(again)
		return one(w)
	}
	return again
}

// pair puts a key at its place, and its value beside it when it comes.
func (m *machine) pair(f api.FieldType, depth int, to *api.Msg) step {
	return func(w lex.Word) api.Fault {
		var at int
		putKey := func(key api.Val) api.Errno {
			o := own(to, f.Number)
			for at = 0; at < len(o.Keys) && order(f.Key, o.Keys[at], key) < 0; at++ {
			}
			if at < len(o.Keys) && order(f.Key, o.Keys[at], key) == 0 {
				return api.ErrDup
			}
			o.Keys, o.Vals = slices.Insert(o.Keys, at, key), slices.Insert(o.Vals, at, api.Val{})
			return api.OK
		}
		putVal := func(v api.Val) api.Errno {
			own(to, f.Number).Vals[at] = v
			return api.OK
		}
		m.next(sign(":"), m.value(f.Kind, f.Ref, depth, putVal))
		return m.value(f.Key, 0, depth, putKey)(w)
	}
}

func order(kind int, a, b api.Val) int {
	if kind == api.String {
		return bytes.Compare(a.B, b.B)
	}
	return bigOf(kind, a.N).Cmp(bigOf(kind, b.N))
}

func bigOf(kind int, n uint64) *big.Int {
	if hasMinus(kind) {
		return big.NewInt(int64(n))
	}
	return new(big.Int).SetUint64(n)
}

func (m *machine) value(kind, ref, depth int, put func(api.Val) api.Errno) step {
	return func(w lex.Word) api.Fault {
		switch kind {
		case api.Message:
			return m.within(w, ref, depth, put)
		case api.Enum:
			return m.symbol(w, ref, put)
		case api.Bool, api.Float, api.Double, api.String, api.Bytes:
			v, e := word(kind, w)
			if e == api.OK {
				e = put(v)
			}
			return wrong(w, e)
		}
		if is(w, "-") && hasMinus(kind) {
			m.next(func(digits lex.Word) api.Fault { return whole(kind, w, digits, put) })
			return fine
		}
		return whole(kind, w, w, put)
	}
}

func (m *machine) within(w lex.Word, ref, depth int, put func(api.Val) api.Errno) api.Fault {
	if !is(w, "{") {
		return wrong(w, api.ErrSyntax)
	}
	if depth+1 > api.MaxDepth {
		return wrong(w, api.ErrTooDeep)
	}
	v := api.Val{M: make([]api.Msg, 1)}
	put(v)
	m.next(m.body(ref, depth+1, &v.M[0]))
	return fine
}

func (m *machine) symbol(w lex.Word, ref int, put func(api.Val) api.Errno) api.Fault {
	if w.Kind != lex.Name {
		return wrong(w, api.ErrSyntax)
	}
	n, e := table.Number(m.x, ref, w.S)
	if e != api.OK {
		return wrong(w, api.ErrSymbol)
	}
	return wrong(w, put(api.Val{N: uint64(n)}))
}

// word tells the value of a word that is one by itself.
func word(kind int, w lex.Word) (api.Val, api.Errno) {
	switch {
	case kind == api.Bool && w.S == "true":
		return api.Val{N: 1}, api.OK
	case kind == api.Bool && w.S == "false":
		return api.Val{}, api.OK
	case kind == api.Float && regexp.MustCompile("^f[0-9a-fA-F]{8}$").MatchString(w.S), kind == api.Double && regexp.MustCompile("^d[0-9a-fA-F]{16}$").MatchString(w.S):
		n, _ := strconv.ParseUint(w.S[1:], 16, 64)
		return api.Val{N: n}, api.OK
	case kind == api.String && w.Kind == lex.Text && !quote.Valid(w.B):
		return api.Val{}, api.ErrText
	case (kind == api.String || kind == api.Bytes) && w.Kind == lex.Text:
		return api.Val{B: w.B}, api.OK
	}
	return api.Val{}, api.ErrSyntax
}

// whole takes a number's digits, which may stand behind a minus: the first word of it is the minus then.
func whole(kind int, first, digits lex.Word, put func(api.Val) api.Errno) api.Fault {
	if digits.Kind != lex.Number {
		return wrong(digits, api.ErrSyntax)
	}
	n := new(big.Int).SetUint64(digits.N)
	if is(first, "-") {
		n.Neg(n)
	}
	low, high := bounds(kind)
	if n.Cmp(low) < 0 || n.Cmp(high) > 0 {
		return wrong(first, api.ErrRange)
	}
	bits := uint64(n.Int64())
	if n.IsUint64() {
		bits = n.Uint64()
	}
	return wrong(first, put(api.Val{N: bits}))
}

func (m *machine) entry(to *api.Msg) {
	var u api.Entry
	number := func(w lex.Word) api.Fault {
		u.Number = int(w.N)
		return asked(w, lex.Number, w.N == 0 || w.N > api.MaxNumber, api.ErrNumber)
	}
	kind := func(w lex.Word) api.Fault {
		u.Kind = int(w.N)
		return asked(w, lex.Number, w.N != 0 && w.N != 1 && w.N != 2 && w.N != 5, api.ErrKind)
	}
	rest := func(w lex.Word) api.Fault {
		u.N, u.B = w.N, w.B
		to.Unknown = append(to.Unknown, u)
		if u.Kind == api.Chunk {
			return asked(w, lex.Text, false, api.OK)
		}
		return asked(w, lex.Number, u.Kind == api.Fix32 && w.N>>32 > 0, api.ErrRange)
	}
	m.next(number, sign("-"), kind, sign(":"), rest)
}

// asked tells the fault of a word that must be of a kind, and not so.
func asked(w lex.Word, kind int, isSo bool, e api.Errno) api.Fault {
	switch {
	case w.Kind != kind:
		return wrong(w, api.ErrSyntax)
	case isSo:
		return wrong(w, e)
	}
	return fine
}
