package parse

import "strings"

// each tells a new list of what is made of each item.
func each[T any](l []T, turn func(T) T) []T {
	var out []T
	for _, x := range l {
		out = append(out, turn(x))
	}
	return out
}

func bareImport(i Import) Import { return Import{Name: strings.Clone(i.Name)} }

func bareRange(r Range) Range { return Range{Low: r.Low, High: r.High} }

func bareSymbol(s Symbol) Symbol { return Symbol{Name: strings.Clone(s.Name), Number: s.Number} }

func bareOneof(o Oneof) Oneof { return Oneof{Name: strings.Clone(o.Name)} }

func bareField(f Field) Field {
	return Field{
		Name: strings.Clone(f.Name), Type: strings.Clone(f.Type), Key: strings.Clone(f.Key),
		Number: f.Number, Label: f.Label, Packed: f.Packed, Oneof: f.Oneof,
	}
}

func bareDecl(d Decl) Decl {
	return Decl{
		Enum: d.Enum, Name: strings.Clone(d.Name),
		Fields: each(d.Fields, bareField), Oneofs: each(d.Oneofs, bareOneof),
		Decls:    each(d.Decls, bareDecl),
		Reserved: each(d.Reserved, bareRange), Symbols: each(d.Symbols, bareSymbol),
	}
}
