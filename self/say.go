package self

import (
	"cartouche/api"
	"cartouche/fields"
)

// tableSaid tells the message that says a good table.
func tableSaid(t api.Table) api.Msg { return said(turned(t.Types, typeSaid)) }

func typeSaid(x api.Type) api.Val {
	return within(name(x.Name), truth(x.Enum), turned(x.Fields, fieldSaid), turned(x.Oneofs, text), turned(x.Symbols, symbolSaid), turned(x.Reserved, rangeSaid))
}

func fieldSaid(f api.FieldType) api.Val {
	return within(name(f.Name), number(f.Number), number(f.Kind), number(f.Ref), number(f.Label), number(f.Oneof), number(f.Key))
}

func symbolSaid(s api.Symbol) api.Val { return within(name(s.Name), number(s.Number)) }

func rangeSaid(r api.Range) api.Val { return within(number(r.Low), number(r.High)) }

// said tells the message whose fields, from the number 1 on, have these values. What has none is not there.
func said(l ...[]api.Val) api.Msg {
	var m api.Msg
	for i, vals := range l {
		if len(vals) > 0 {
			m.Fields = append(m.Fields, api.Field{Number: i + 1, Vals: vals})
		}
	}
	return m
}

// within tells such a message as a value.
func within(l ...[]api.Val) api.Val { return api.Val{M: []api.Msg{said(l...)}} }

// turned tells what a function makes of each one of a list.
func turned[From, To any](l []From, turn func(From) To) []To {
	var out []To
	for _, x := range l {
		out = append(out, turn(x))
	}
	return out
}

func name(s string) []api.Val { return single(text(s)) }

func number(n int) []api.Val { return single(api.Val{N: uint64(n)}) }

func truth(isSo bool) []api.Val {
	if isSo {
		return number(1)
	}
	return number(0)
}

func text(s string) api.Val { return api.Val{B: []byte(s)} }

// single tells the values of a Plain field: none, if it holds its default.
func single(v api.Val) []api.Val {
	if fields.IsDefault(v) {
		return nil
	}
	return []api.Val{v}
}
