package samples

import (
	"slices"
	"strconv"
	"strings"

	"cartouche/api"
)

// Listed does something at each list of a table.
type Listed struct {
	Types   func(*[]api.Type)
	Fields  func(*[]api.FieldType)
	Oneofs  func(*[]string)
	Symbols func(*[]api.Symbol)
	Ranges  func(*[]api.Range)
}

// Table goes through a table.
func (c Listed) Table(t *api.Table) {
	c.Types(&t.Types)
	for i := range t.Types {
		x := &t.Types[i]
		c.Fields(&x.Fields)
		c.Oneofs(&x.Oneofs)
		c.Symbols(&x.Symbols)
		c.Ranges(&x.Reserved)
	}
}

// SameTable tells whether two tables are the same; nil and empty lists are one.
func SameTable(a, b api.Table) bool { return slices.EqualFunc(a.Types, b.Types, SameType) }

// SameType tells it of types.
func SameType(a, b api.Type) bool {
	return a.Name == b.Name && a.Enum == b.Enum && slices.Equal(a.Fields, b.Fields) && slices.Equal(a.Oneofs, b.Oneofs) &&
		slices.Equal(a.Symbols, b.Symbols) && slices.Equal(a.Reserved, b.Reserved)
}

// CopyTable tells a table in memory of its own, but for its names.
func CopyTable(t api.Table) api.Table {
	Listed{renew[api.Type], renew[api.FieldType], renew[string], renew[api.Symbol], renew[api.Range]}.Table(&t)
	return t
}

// EmptiedTable tells the same table with empty lists for those that are nil, and nil for those that are empty.
func EmptiedTable(t api.Table) api.Table {
	out := CopyTable(t)
	Listed{turnEmpty[api.Type], turnEmpty[api.FieldType], turnEmpty[string], turnEmpty[api.Symbol], turnEmpty[api.Range]}.Table(&out)
	return out
}

// RoomyTable tells the same table with spare room behind each list, and something in it.
func RoomyTable(t api.Table) api.Table {
	out := CopyTable(t)
	Listed{
		func(l *[]api.Type) { Roomy(l, Message("spare")) },
		func(l *[]api.FieldType) { Roomy(l, api.FieldType{Name: "spare", Number: 7}) },
		func(l *[]string) { Roomy(l, "spare") },
		func(l *[]api.Symbol) { Roomy(l, api.Symbol{Name: "spare", Number: 7}) },
		func(l *[]api.Range) { Roomy(l, api.Range{Low: 7, High: 7}) },
	}.Table(&out)
	return out
}

// SharesTable tells whether two lists of a table share memory, spare room too, or one of them with a list of the others.
func SharesTable(answer api.Table, given ...api.Table) bool {
	again := 0
	types, fields, oneofs, symbols, ranges := map[*api.Type]int{}, map[*api.FieldType]int{}, map[*string]int{}, map[*api.Symbol]int{}, map[*api.Range]int{}
	see := Listed{
		func(l *[]api.Type) { again += note(types, *l) },
		func(l *[]api.FieldType) { again += note(fields, *l) },
		func(l *[]string) { again += note(oneofs, *l) },
		func(l *[]api.Symbol) { again += note(symbols, *l) },
		func(l *[]api.Range) { again += note(ranges, *l) },
	}
	for _, t := range given {
		see.Table(&t)
	}
	again = 0
	see.Table(&answer)
	return again > 0
}

// WhollyTable tells all that stands in a table's memory, spare room too.
func WhollyTable(t api.Table) string {
	c := teller{room: true}
	each(&c, t.Types, c.tableType)
	return c.text.String()
}

func (t *teller) tableType(x api.Type) {
	t.word(x.Name)
	t.word(strconv.FormatBool(x.Enum))
	each(t, x.Fields, func(f api.FieldType) {
		t.word(f.Name)
		t.numbers(f.Number, f.Kind, f.Ref, f.Label, f.Oneof, f.Key)
	})
	each(t, x.Oneofs, t.word)
	each(t, x.Symbols, func(s api.Symbol) {
		t.word(s.Name)
		t.numbers(s.Number)
	})
	each(t, x.Reserved, func(r api.Range) { t.numbers(r.Low, r.High) })
}

func (t *teller) word(s string) { t.text.WriteString(strconv.Quote(s)) }

func (t *teller) numbers(l ...int) {
	var words []string
	for _, n := range l {
		words = append(words, strconv.Itoa(n))
	}
	t.text.WriteString(" " + strings.Join(words, " "))
}
