package parse

import (
	"strconv"
	"strings"

	"cartouche/api"
	"cartouche/quote"
)

const indent = "  "

// printer writes lines; around is how many messages, enums and oneofs are around the next one.
type printer struct {
	text   strings.Builder
	around int
}

func (p *printer) file(f File) {
	for _, i := range f.Imports {
		p.line(wordImport, " ", quote.Quote([]byte(i.Name)), ";")
	}
	p.decls(f.Decls)
}

// decls leaves out what is nested deeper than Parse takes it, so that a list that holds itself ends too.
func (p *printer) decls(l []Decl) {
	if p.around > api.MaxNest {
		return
	}
	for _, d := range l {
		if d.Enum {
			p.enum(d)
		} else {
			p.message(d)
		}
	}
}

func (p *printer) message(d Decl) {
	p.open(wordMessage, d.Name)
	for _, r := range d.Reserved {
		p.reserved(r)
	}
	p.fields(d)
	p.decls(d.Decls)
	p.end()
}

func (p *printer) enum(d Decl) {
	p.open(wordEnum, d.Name)
	for _, s := range d.Symbols {
		p.line(s.Name, " = ", decimal(s.Number), ";")
	}
	p.end()
}

func (p *printer) reserved(r Range) {
	if r.Low == r.High {
		p.line(wordReserved, " ", decimal(r.Low), ";")
		return
	}
	p.line(wordReserved, " ", decimal(r.Low), " ", wordTo, " ", decimal(r.High), ";")
}

// fields writes a oneof whole where its first member stands, since its members may stand among others.
func (p *printer) fields(d Decl) {
	members := membersOf(d)
	for i, f := range d.Fields {
		if !isMember(d, f) {
			p.field(f)
			continue
		}
		if l := members[f.Oneof]; l[0] == i {
			p.oneof(d, l)
		}
	}
}

func (p *printer) oneof(d Decl, members []int) {
	p.open(wordOneof, d.Oneofs[d.Fields[members[0]].Oneof].Name)
	for _, i := range members {
		p.field(d.Fields[i])
	}
	p.end()
}

func (p *printer) field(f Field) {
	p.line(typeText(f), " ", f.Name, " = ", decimal(f.Number), optionText(f), ";")
}

func (p *printer) open(word, name string) {
	p.line(word, " ", name, " {")
	p.around++
}

func (p *printer) end() {
	p.around--
	p.line("}")
}

func (p *printer) line(parts ...string) {
	for range p.around {
		p.text.WriteString(indent)
	}
	for _, s := range parts {
		p.text.WriteString(s)
	}
	p.text.WriteString("\n")
}

// membersOf tells the indices of each oneof's fields.
func membersOf(d Decl) [][]int {
	l := make([][]int, len(d.Oneofs))
	for i, f := range d.Fields {
		if isMember(d, f) {
			l[f.Oneof] = append(l[f.Oneof], i)
		}
	}
	return l
}

// isMember asks for the index too: a tree may be any.
func isMember(d Decl, f Field) bool {
	return f.Label == api.Member && f.Oneof >= 0 && f.Oneof < len(d.Oneofs)
}

func typeText(f Field) string {
	switch f.Label {
	case api.Optional:
		return wordOptional + " " + f.Type
	case api.Repeated:
		return wordRepeated + " " + f.Type
	case api.Map:
		return wordMap + "<" + f.Key + ", " + f.Type + ">"
	}
	return f.Type
}

func optionText(f Field) string {
	switch f.Packed {
	case packedTrue:
		return " [" + wordPacked + " = " + wordTrue + "]"
	case packedFalse:
		return " [" + wordPacked + " = " + wordFalse + "]"
	}
	return ""
}

func decimal(n uint64) string { return strconv.FormatUint(n, 10) }
