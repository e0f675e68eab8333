package samples

import (
	"strings"

	"cartouche/api"
	"cartouche/parse"
	"cartouche/scalar"
)

// File writes a good table as a file. What is compiled of it is the table, where each full name stands for itself, each type stands behind those around it and all within these, and each oneof's first member behind those of the oneofs ahead of it.
func File(t api.Table) string { return parse.Print(parse.File{Decls: declarations(t, "")}) }

// declarations tells those whose full names are one name behind that.
func declarations(t api.Table, around string) []parse.Decl {
	var out []parse.Decl
	for _, x := range t.Types {
		own, isWithin := strings.CutPrefix(x.Name, around)
		if !isWithin || strings.Contains(own, ".") {
			continue
		}
		d := parse.Decl{Enum: x.Enum, Name: own, Decls: declarations(t, x.Name+".")}
		for _, s := range x.Symbols {
			d.Symbols = append(d.Symbols, parse.Symbol{Name: s.Name, Number: uint64(s.Number)})
		}
		for _, r := range x.Reserved {
			d.Reserved = append(d.Reserved, parse.Range{Low: uint64(r.Low), High: uint64(r.High)})
		}
		for _, o := range x.Oneofs {
			d.Oneofs = append(d.Oneofs, parse.Oneof{Name: o})
		}
		for _, f := range x.Fields {
			d.Fields = append(d.Fields, declaredField(t, f))
		}
		out = append(out, d)
	}
	return out
}

func declaredField(t api.Table, f api.FieldType) parse.Field {
	const isNotPacked = 2
	out := parse.Field{Name: f.Name, Number: uint64(f.Number), Label: f.Label, Oneof: f.Oneof}
	switch {
	case f.Label == api.Packed:
		out.Label = api.Repeated
	case f.Label == api.Repeated && scalar.Numeric(f.Kind):
		out.Packed = isNotPacked
	case f.Label == api.Optional && f.Kind == api.Message:
		out.Label = api.Plain
	}
	out.Key, _ = scalar.Name(f.Key) // none, where there is no map
	out.Type, _ = scalar.Name(f.Kind)
	if f.Kind >= api.Enum {
		out.Type = t.Types[f.Ref].Name
	}
	return out
}
