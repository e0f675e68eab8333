package text

import (
	"strconv"

	"cartouche/api"
	"cartouche/fields"
	"cartouche/lex"
	"cartouche/scalar"
)

const baseTen = 10

// value reads a value of a scalar kind.
func (r *reader) value(kind int) api.Val {
	switch kind {
	case api.Bool, api.Float, api.Double:
		return r.spelt(kind, lex.Name)
	case api.String, api.Bytes:
		return r.spelt(kind, lex.Text)
	}
	return r.number(kind)
}

// spelt reads a value that is one word, as package scalar has it.
func (r *reader) spelt(kind, wordKind int) api.Val {
	w := r.take(wordKind)
	return valueOf(kind, w.S, w)
}

// number reads a whole number, with its sign, which may stand by itself; by whatever base it is written, package scalar is asked by base ten.
func (r *reader) number(kind int) api.Val {
	first, sign := r.next(), ""
	if hasNegatives(kind) && r.isNext(signMinus) {
		sign = r.pass().S
	}
	digits := r.take(lex.Number)
	return valueOf(kind, sign+strconv.FormatUint(digits.N, baseTen), first)
}

// valueOf tells the value of a spelling; if it has none, the fault is at the word with which it began.
func valueOf(kind int, s string, first lex.Word) api.Val {
	v, e := scalar.Parse(kind, s)
	if e != api.OK {
		giveUp(first, e)
	}
	return v
}

// hasNegatives tells whether a minus may stand ahead of a kind's numbers.
func hasNegatives(kind int) bool {
	switch kind {
	case api.Int32, api.Int64, api.Sint32, api.Sint64, api.Sfixed32, api.Sfixed64:
		return true
	}
	return false
}

func (r *reader) symbol(x api.Type) api.Val {
	name := r.take(lex.Name)
	s, ok := fields.Symbol(x, func(s api.Symbol) bool { return s.Name == name.S })
	if !ok {
		giveUp(name, api.ErrSymbol)
	}
	return api.Val{N: uint64(s.Number)}
}
