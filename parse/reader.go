package parse

import (
	"strings"

	"cartouche/api"
	"cartouche/lex"
)

// reader goes through a text's words once, from the left. No form takes the End, so that a next word always stands there.
type reader struct {
	words []lex.Word
	at    int
}

// tree reads all words. A form gives up by throwing its fault, since nothing that was read till then is told.
func (r *reader) tree() (f File, fault api.Fault) {
	defer func() {
		if thrown, ok := recover().(api.Fault); ok {
			f, fault = File{}, thrown
		}
	}()
	return r.file(), api.Fault{}
}

func (r *reader) file() File {
	f := File{}
	for r.next().Kind != lex.End {
		switch r.next().S {
		case wordImport:
			f.Imports = append(f.Imports, r.imported())
		case wordMessage:
			f.Decls = append(f.Decls, r.message(0))
		case wordEnum:
			f.Decls = append(f.Decls, r.enum())
		default:
			r.giveUp(api.ErrSyntax)
		}
	}
	return f
}

func (r *reader) imported() Import {
	r.skip(wordImport)
	w := r.take(lex.Text)
	r.skip(";")
	return Import{Name: string(w.B), At: placeOf(w)}
}

// message reads one that is declared within so many others.
func (r *reader) message(around int) Decl {
	if around >= api.MaxNest {
		r.giveUp(api.ErrLimit)
	}
	r.skip(wordMessage)
	name := r.take(lex.Name)
	d := Decl{Name: name.S, At: placeOf(name)}
	r.skip("{")
	for !r.isNext("}") {
		r.member(&d, around)
	}
	r.skip("}")
	return d
}

func (r *reader) member(d *Decl, around int) {
	switch r.next().S {
	case wordMessage:
		d.Decls = append(d.Decls, r.message(around+1))
	case wordEnum:
		d.Decls = append(d.Decls, r.enum())
	case wordOneof:
		r.oneof(d)
	case wordReserved:
		r.reserved(d)
	case wordOptional:
		d.Fields = append(d.Fields, r.marked(wordOptional, api.Optional))
	case wordRepeated:
		d.Fields = append(d.Fields, r.marked(wordRepeated, api.Repeated))
	case wordMap:
		d.Fields = append(d.Fields, r.mapped())
	default:
		d.Fields = append(d.Fields, r.field(Field{Label: api.Plain}))
	}
}

func (r *reader) enum() Decl {
	r.skip(wordEnum)
	name := r.take(lex.Name)
	d := Decl{Enum: true, Name: name.S, At: placeOf(name)}
	r.skip("{")
	for !r.isNext("}") {
		d.Symbols = append(d.Symbols, r.symbol())
	}
	r.skip("}")
	return d
}

func (r *reader) symbol() Symbol {
	name, number := r.numbered()
	r.skip(";")
	return Symbol{Name: name.S, Number: number.N, At: placeOf(name), NumberAt: placeOf(number)}
}

// oneof reads its members among the message's own fields; there must be one at least.
func (r *reader) oneof(d *Decl) {
	r.skip(wordOneof)
	name := r.take(lex.Name)
	index := len(d.Oneofs)
	d.Oneofs = append(d.Oneofs, Oneof{Name: name.S, At: placeOf(name)})
	r.skip("{")
	d.Fields = append(d.Fields, r.one(index))
	for !r.isNext("}") {
		d.Fields = append(d.Fields, r.one(index))
	}
	r.skip("}")
}

func (r *reader) one(index int) Field {
	f := r.typed(Field{Label: api.Member, Oneof: index})
	f = r.named(f)
	r.skip(";")
	return f
}

func (r *reader) reserved(d *Decl) {
	r.skip(wordReserved)
	d.Reserved = append(d.Reserved, r.numbers())
	for r.isNext(",") {
		r.skip(",")
		d.Reserved = append(d.Reserved, r.numbers())
	}
	r.skip(";")
}

func (r *reader) numbers() Range {
	low := r.take(lex.Number)
	high := low
	if r.isNext(wordTo) {
		r.skip(wordTo)
		high = r.take(lex.Number)
	}
	return Range{Low: low.N, High: high.N, At: placeOf(low)}
}

// marked reads a field with a word ahead of it that says its label.
func (r *reader) marked(mark string, label int) Field {
	w := r.skip(mark)
	return r.field(Field{Label: label, MarkAt: placeOf(w)})
}

func (r *reader) field(f Field) Field {
	f = r.named(r.typed(f))
	if r.isNext("[") {
		f = r.option(f)
	}
	r.skip(";")
	return f
}

func (r *reader) option(f Field) Field {
	r.skip("[")
	f.MarkAt = placeOf(r.skip(wordPacked))
	r.skip("=")
	f.Packed = r.packed()
	r.skip("]")
	return f
}

func (r *reader) packed() int {
	if r.isNext(wordTrue) {
		r.skip(wordTrue)
		return packedTrue
	}
	r.skip(wordFalse)
	return packedFalse
}

func (r *reader) mapped() Field {
	r.skip(wordMap)
	r.skip("<")
	key := r.take(lex.Name)
	r.skip(",")
	f := r.typed(Field{Label: api.Map, Key: key.S, MarkAt: placeOf(key)})
	r.skip(">")
	f = r.named(f)
	r.skip(";")
	return f
}

// typed reads a field's type, whose words may have blanks between them.
func (r *reader) typed(f Field) Field {
	first := r.take(lex.Name)
	written := strings.Builder{}
	written.WriteString(first.S)
	for r.isNext(".") {
		r.skip(".")
		written.WriteString(".")
		written.WriteString(r.take(lex.Name).S)
	}
	f.Type, f.TypeAt = written.String(), placeOf(first)
	return f
}

// named reads a field's name and its number.
func (r *reader) named(f Field) Field {
	name, number := r.numbered()
	f.Name, f.At = name.S, placeOf(name)
	f.Number, f.NumberAt = number.N, placeOf(number)
	return f
}

func (r *reader) numbered() (name, number lex.Word) {
	name = r.take(lex.Name)
	r.skip("=")
	return name, r.take(lex.Number)
}

func (r *reader) next() lex.Word { return r.words[r.at] }

// isNext asks for a word that stands for itself: a name or a sign. Texts begin with a quote, so that none is taken for one.
func (r *reader) isNext(s string) bool { return r.next().S == s }

func (r *reader) skip(s string) lex.Word {
	if !r.isNext(s) {
		r.giveUp(api.ErrSyntax)
	}
	return r.pass()
}

func (r *reader) take(kind int) lex.Word {
	if r.next().Kind != kind {
		r.giveUp(api.ErrSyntax)
	}
	return r.pass()
}

func (r *reader) pass() lex.Word {
	w := r.next()
	r.at++
	return w
}

// giveUp throws a fault at the next word.
func (r *reader) giveUp(e api.Errno) {
	w := r.next()
	panic(api.Fault{Code: e, Line: w.Line, Col: w.Col})
}

func placeOf(w lex.Word) Place { return Place{Line: w.Line, Col: w.Col} }
