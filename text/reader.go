package text

import (
	"cmp"
	"math"
	"slices"

	"cartouche/api"
	"cartouche/fields"
	"cartouche/lex"
)

// form reads what stands behind the name of a field.
type form func(*reader, api.FieldType) api.Field

// forms tells the form of each label.
func forms() map[int]form {
	return map[int]form{
		api.Plain:    (*reader).single,
		api.Optional: (*reader).single,
		api.Member:   (*reader).single,
		api.Repeated: (*reader).list,
		api.Packed:   (*reader).list,
		api.Map:      (*reader).pairs,
	}
}

// reader goes through a text's words once, from the left; it is in a message of that depth. No form takes the End but the whole text's, so that a next word always stands there.
type reader struct {
	types []api.Type
	words []lex.Word
	at    int
	depth int
	forms map[int]form
}

// whole reads all words as a message of a type.
func (r *reader) whole(x api.Type) api.Msg {
	m := r.message(x)
	r.take(lex.End)
	return m
}

// message reads fields and entries up to a word that may end a message: which one must, is asked behind it.
func (r *reader) message(x api.Type) api.Msg {
	var m api.Msg
	for !r.isNext(signMessageEnd) && r.next().Kind != lex.End {
		if r.isNext(signUnknown) {
			m.Unknown = append(m.Unknown, r.entry())
			continue
		}
		f := r.named(x, m)
		m.Fields = append(m.Fields, r.forms[f.Label](r, f))
	}
	slices.SortFunc(m.Fields, func(a, b api.Field) int { return cmp.Compare(a.Number, b.Number) })
	return m
}

// named reads the name of a field that can be there beside those that the message has.
func (r *reader) named(x api.Type, m api.Msg) api.FieldType {
	name := r.take(lex.Name)
	f, ok := fields.Named(x.Fields, name.S)
	if !ok {
		giveUp(name, api.ErrName)
	}
	isRival := func(o api.Field) bool {
		other, _ := fields.Find(x.Fields, o.Number)
		return other.Number == f.Number || other.Label == api.Member && f.Label == api.Member && other.Oneof == f.Oneof
	}
	if slices.ContainsFunc(m.Fields, isRival) {
		giveUp(name, api.ErrDup)
	}
	return f
}

func (r *reader) single(f api.FieldType) api.Field {
	if f.Kind != api.Message {
		r.skip(signValue)
	}
	return api.Field{Number: f.Number, Vals: []api.Val{r.item(f)}}
}

func (r *reader) list(f api.FieldType) api.Field {
	out := api.Field{Number: f.Number}
	r.skip(signList)
	for !r.isNext(signListEnd) {
		out.Vals = append(out.Vals, r.item(f))
	}
	r.skip(signListEnd)
	return out
}

// keyed is a key as it can be held against others.
type keyed struct {
	n uint64
	s string
}

// pairs puts the keys in order behind the last one: were each put at its place at once, many would be moved for each.
func (r *reader) pairs(f api.FieldType) api.Field {
	out := api.Field{Number: f.Number}
	taken := map[keyed]struct{}{}
	r.skip(signMap)
	for !r.isNext(signMapEnd) {
		first := r.next()
		key := r.value(f.Key)
		same := keyed{key.N, string(key.B)}
		if _, isThere := taken[same]; isThere {
			giveUp(first, api.ErrDup)
		}
		taken[same] = struct{}{}
		r.skip(signValue)
		out.Keys, out.Vals = append(out.Keys, key), append(out.Vals, r.item(f))
	}
	r.skip(signMapEnd)
	return fields.Ordered(f, out)
}

// item reads a value of a field.
func (r *reader) item(f api.FieldType) api.Val {
	switch f.Kind {
	case api.Message:
		return r.within(f.Ref)
	case api.Enum:
		return r.symbol(r.types[f.Ref])
	}
	return r.value(f.Kind)
}

// within reads a message of that type, with what is around it.
func (r *reader) within(ref int) api.Val {
	open := r.skip(signMessage)
	if r.depth == api.MaxDepth {
		giveUp(open, api.ErrTooDeep)
	}
	r.depth++
	m := r.message(r.types[ref])
	r.depth--
	r.skip(signMessageEnd)
	return api.Val{M: []api.Msg{m}}
}

// entry reads one that is not known.
func (r *reader) entry() api.Entry {
	r.skip(signUnknown)
	number := r.take(lex.Number)
	if number.N < 1 || number.N > api.MaxNumber {
		giveUp(number, api.ErrNumber)
	}
	r.skip(signMinus)
	kind := r.take(lex.Number)
	if !isWireKind(kind.N) {
		giveUp(kind, api.ErrKind)
	}
	r.skip(signValue)
	x := api.Entry{Number: int(number.N), Kind: int(kind.N)}
	switch x.Kind {
	case api.Chunk:
		x.B = r.take(lex.Text).B
	case api.Fix32:
		x.N = r.upTo(math.MaxUint32)
	default:
		x.N = r.upTo(math.MaxUint64)
	}
	return x
}

func isWireKind(n uint64) bool {
	switch n {
	case api.Varint, api.Fix64, api.Chunk, api.Fix32:
		return true
	}
	return false
}

// upTo reads an entry's number, which may be as great as that.
func (r *reader) upTo(most uint64) uint64 {
	w := r.take(lex.Number)
	if w.N > most {
		giveUp(w, api.ErrRange)
	}
	return w.N
}

func (r *reader) next() lex.Word { return r.words[r.at] }

// isNext asks for a sign. Texts begin with a quote, so that none is taken for one.
func (r *reader) isNext(sign string) bool { return r.next().S == sign }

func (r *reader) skip(sign string) lex.Word {
	if !r.isNext(sign) {
		giveUp(r.next(), api.ErrSyntax)
	}
	return r.pass()
}

func (r *reader) take(kind int) lex.Word {
	if r.next().Kind != kind {
		giveUp(r.next(), api.ErrSyntax)
	}
	return r.pass()
}

func (r *reader) pass() lex.Word {
	w := r.next()
	r.at++
	return w
}

// giveUp throws a fault at a word.
func giveUp(w lex.Word, e api.Errno) {
	panic(api.Fault{Code: e, Line: w.Line, Col: w.Col})
}
