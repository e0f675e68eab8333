package self

import "cartouche/api"

// The types of the table of tables, by their indices.
const (
	ofTable = iota
	ofType
	ofField
	ofSymbol
	ofRange
)

// Meta tells the table of tables.
func Meta() api.Table {
	return types(
		message("Table", messages("types", ofType)),
		message("Type", plain("name", api.String), plain("enum", api.Bool), messages("fields", ofField), list("oneofs", api.String), messages("symbols", ofSymbol), messages("reserved", ofRange)),
		message("Field", plain("name", api.String), plain("number", api.Uint32), plain("kind", api.Uint32), plain("ref", api.Uint32), plain("label", api.Uint32), plain("oneof", api.Uint32), plain("key", api.Uint32)),
		message("Symbol", plain("name", api.String), plain("number", api.Uint32)),
		message("Range", plain("low", api.Uint32), plain("high", api.Uint32)),
	)
}

func types(l ...api.Type) api.Table { return api.Table{Types: l} }

// message numbers the fields of a type by their places, from 1 on.
func message(name string, l ...api.FieldType) api.Type {
	x := api.Type{Name: name}
	for i, f := range l {
		f.Number = i + 1
		x.Fields = append(x.Fields, f)
	}
	return x
}

func plain(name string, kind int) api.FieldType {
	return api.FieldType{Name: name, Kind: kind, Label: api.Plain}
}

func list(name string, kind int) api.FieldType {
	return api.FieldType{Name: name, Kind: kind, Label: api.Repeated}
}

func messages(name string, ref int) api.FieldType {
	f := list(name, api.Message)
	f.Ref = ref
	return f
}
