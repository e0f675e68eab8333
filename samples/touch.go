package samples

import (
	"strconv"
	"strings"

	"cartouche/api"
)

// Touch does something at each place of a message: at each number and at each list. What is nil is done nowhere.
type Touch struct {
	Number func(*int)
	Bits   func(*uint64)
	Bytes  func(*[]byte)
	Vals   func(*[]api.Val)
	Msgs   func(*[]api.Msg)
	Fields func(*[]api.Field)
	Rest   func(*[]api.Entry)
}

func do[T any](f func(*T), at *T) {
	if f != nil {
		f(at)
	}
}

// Message goes through a message.
func (c Touch) Message(m *api.Msg) {
	do(c.Fields, &m.Fields)
	do(c.Rest, &m.Unknown)
	for i := range m.Fields {
		f := &m.Fields[i]
		do(c.Number, &f.Number)
		c.values(&f.Keys)
		c.values(&f.Vals)
	}
	for i := range m.Unknown {
		x := &m.Unknown[i]
		do(c.Number, &x.Number)
		do(c.Number, &x.Kind)
		do(c.Bits, &x.N)
		do(c.Bytes, &x.B)
	}
}

func (c Touch) values(l *[]api.Val) {
	do(c.Vals, l)
	for i := range *l {
		v := &(*l)[i]
		do(c.Bits, &v.N)
		do(c.Bytes, &v.B)
		do(c.Msgs, &v.M)
		for j := range v.M {
			c.Message(&v.M[j])
		}
	}
}

// Copy tells a message in memory of its own.
func Copy(m api.Msg) api.Msg {
	Touch{Bytes: renew[byte], Vals: renew[api.Val], Msgs: renew[api.Msg], Fields: renew[api.Field], Rest: renew[api.Entry]}.Message(&m)
	return m
}

func fresh[T any](l []T) []T { return append([]T(nil), l...) }

func renew[T any](l *[]T) { *l = fresh(*l) }

// Emptied tells the same message with empty lists for those that are nil, and nil for those that are empty.
func Emptied(m api.Msg) api.Msg {
	out := Copy(m)
	Touch{Bytes: turnEmpty[byte], Vals: turnEmpty[api.Val], Msgs: turnEmpty[api.Msg], Fields: turnEmpty[api.Field], Rest: turnEmpty[api.Entry]}.Message(&out)
	return out
}

func turnEmpty[T any](l *[]T) {
	switch {
	case *l == nil:
		*l = make([]T, 0, 3)
	case len(*l) == 0:
		*l = nil
	}
}

// WithRoom tells the same message with spare room behind each list, and something in it.
func WithRoom(m api.Msg) api.Msg {
	out := Copy(m)
	Touch{
		Bytes: func(l *[]byte) { Roomy(l, 7) }, Vals: func(l *[]api.Val) { Roomy(l, Num(7)) }, Msgs: func(l *[]api.Msg) { Roomy(l, Msg(Field(7))) },
		Fields: func(l *[]api.Field) { Roomy(l, Field(7, Num(7))) }, Rest: func(l *[]api.Entry) { Roomy(l, Chunk(7, "a")) },
	}.Message(&out)
	return out
}

// Roomy gives a list spare room, with that in it.
func Roomy[T any](l *[]T, with T) {
	count := len(*l)
	for range 3 {
		*l = append(*l, with)
	}
	*l = (*l)[:count]
}

// Shares tells whether two lists of a message share memory, spare room too, or one of them with a list of the others.
func Shares(answer api.Msg, given ...api.Msg) bool {
	s := seen{map[*byte]int{}, map[*api.Val]int{}, map[*api.Msg]int{}, map[*api.Field]int{}, map[*api.Entry]int{}}
	for _, m := range given {
		s.see(m)
	}
	return s.see(answer)
}

// seen is what stands in the lists that were gone through.
type seen struct {
	bytes  map[*byte]int
	vals   map[*api.Val]int
	msgs   map[*api.Msg]int
	fields map[*api.Field]int
	rest   map[*api.Entry]int
}

// see tells whether a part of a message was there already.
func (s seen) see(m api.Msg) bool {
	again := 0
	Touch{
		Bytes: func(l *[]byte) { again += note(s.bytes, *l) }, Vals: func(l *[]api.Val) { again += note(s.vals, *l) }, Msgs: func(l *[]api.Msg) { again += note(s.msgs, *l) },
		Fields: func(l *[]api.Field) { again += note(s.fields, *l) }, Rest: func(l *[]api.Entry) { again += note(s.rest, *l) },
	}.Message(&m)
	return again > 0
}

func note[T any](places map[*T]int, l []T) int {
	before := len(places)
	l = l[:cap(l)]
	for i := range l {
		places[&l[i]]++
	}
	return before + len(l) - len(places)
}

// Told tells all of a message; nil and empty lists are told as one.
func Told(m api.Msg) string {
	t := teller{}
	t.message(m)
	return t.text.String()
}

// Shortly tells the beginning of what may be long.
func Shortly(m api.Msg) string {
	s := Told(m)
	return s[:min(len(s), 400)]
}

// Wholly tells all that stands in a message's memory, spare room too.
func Wholly(m api.Msg) string {
	t := teller{room: true}
	t.message(m)
	return t.text.String()
}

type teller struct {
	text strings.Builder
	room bool
}

func (t *teller) number(n int) { t.text.WriteString(strconv.Itoa(n)) }

func each[T any](t *teller, l []T, one func(T)) {
	if t.room {
		t.number(len(l))
		t.text.WriteString(" of ")
		l = l[:cap(l)]
	}
	for i, x := range l {
		if i > 0 {
			t.text.WriteString("; ")
		}
		one(x)
	}
}

func (t *teller) message(m api.Msg) {
	t.text.WriteString("{")
	each(t, m.Fields, t.field)
	if cap(m.Unknown) > 0 {
		each(t, m.Unknown, t.entry)
	}
	t.text.WriteString("}")
}

func (t *teller) field(f api.Field) {
	t.number(f.Number)
	t.values("[", f.Vals)
	if len(f.Keys) > 0 || t.room {
		t.values(" by [", f.Keys)
	}
}

func (t *teller) values(ahead string, l []api.Val) {
	t.text.WriteString(ahead)
	each(t, l, func(v api.Val) {
		t.text.WriteString(strconv.FormatUint(v.N, 10))
		if len(v.B) > 0 || t.room {
			t.quoted(v.B)
		}
		if len(v.M) > 0 || t.room {
			each(t, v.M, t.message)
		}
	})
	t.text.WriteString("]")
}

func (t *teller) entry(x api.Entry) {
	t.text.WriteString(" ? ")
	t.number(x.Number)
	t.text.WriteString(" ")
	t.number(x.Kind)
	t.text.WriteString(" " + strconv.FormatUint(x.N, 10) + " ")
	t.quoted(x.B)
}

func (t *teller) quoted(b []byte) {
	if t.room {
		t.number(len(b))
		t.text.WriteString(" of ")
		b = b[:cap(b)]
	}
	t.text.WriteString(strconv.Quote(string(b)))
}
