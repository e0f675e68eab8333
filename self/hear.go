package self

import "cartouche/api"

// saying is a message that is typed by one of the table of tables: it is asked for its fields by their numbers.
type saying api.Msg

// tableOf tells the table that a typed message says. It need not be good.
func tableOf(m api.Msg) api.Table {
	return api.Table{Types: turned(saying(m).list(1), typeOf)}
}

func typeOf(v api.Val) api.Type {
	m := inner(v)
	return api.Type{
		Name: m.name(1), Enum: m.number(2) != 0, Fields: turned(m.list(3), fieldOf),
		Oneofs: turned(m.list(4), textOf), Symbols: turned(m.list(5), symbolOf), Reserved: turned(m.list(6), rangeOf),
	}
}

func fieldOf(v api.Val) api.FieldType {
	m := inner(v)
	return api.FieldType{
		Name: m.name(1), Number: m.number(2), Kind: m.number(3), Ref: m.number(4),
		Label: m.number(5), Oneof: m.number(6), Key: m.number(7),
	}
}

func symbolOf(v api.Val) api.Symbol {
	m := inner(v)
	return api.Symbol{Name: m.name(1), Number: m.number(2)}
}

func rangeOf(v api.Val) api.Range {
	m := inner(v)
	return api.Range{Low: m.number(1), High: m.number(2)}
}

func textOf(v api.Val) string { return string(v.B) }

// inner tells the message that a typed value holds: it has just one.
func inner(v api.Val) saying { return saying(v.M[0]) }

// list tells a field's values: none, if it is not there. It shares them with the message, where model.Get would copy all that is within: what is made of them is new memory anyway.
func (m saying) list(number int) []api.Val {
	for _, f := range m.Fields {
		if f.Number == number {
			return f.Vals
		}
	}
	return nil
}

// single tells the value of a Plain field: its default, if it is not there.
func (m saying) single(number int) api.Val {
	if l := m.list(number); len(l) > 0 {
		return l[0]
	}
	return api.Val{}
}

func (m saying) name(number int) string { return textOf(m.single(number)) }

func (m saying) number(number int) int { return int(m.single(number).N) }
