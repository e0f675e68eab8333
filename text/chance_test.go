package text_test

import (
	"slices"
	"strings"

	"cartouche/api"
	"cartouche/samples"
	"cartouche/table"
)

// deepened tells a message around another one, with more depth than may be now and then.
func deepened(m *samples.Maker, x api.Table, index int, a api.Msg) api.Msg {
	for _, f := range x.Types[index].Fields {
		if f.Label == api.Optional && f.Kind == api.Message && f.Ref == index {
			return samples.Nested(f.Number, 12+m.Below(5), a)
		}
	}
	return a
}

// writer writes words in some of the ways in which they may stand.
type writer struct {
	*samples.Maker
	x     api.Table
	words []string
}

// wordsOf tells words of a typed message: fields in any order, entries among them, in rare cases a field twice.
func wordsOf(m *samples.Maker, x api.Table, index int, a api.Msg) []string {
	w := writer{Maker: m, x: x}
	w.message(index, a)
	return w.words
}

func (w *writer) add(l ...string) { w.words = append(w.words, l...) }

func (w *writer) message(index int, a api.Msg) {
	l, rest := slices.Clone(a.Fields), a.Unknown
	for i := range l {
		j := w.Below(i + 1)
		l[i], l[j] = l[j], l[i]
	}
	if len(l) > 0 && w.Below(150) == 0 {
		l = append(l, samples.Pick(w.Maker, l...))
	}
	for len(l)+len(rest) > 0 {
		if w.Below(len(l)+len(rest)) < len(l) {
			w.field(index, l[0])
			l = l[1:]
		} else {
			w.entry(rest[0])
			rest = rest[1:]
		}
	}
}

func (w *writer) field(index int, own api.Field) {
	f, _ := table.Field(w.x, index, own.Number)
	w.add(f.Name)
	switch {
	case f.Label == api.Map:
		w.add("<")
		for _, i := range w.shuffled(len(own.Keys)) {
			w.value(f.Key, 0, own.Keys[i])
			w.add(":")
			w.value(f.Kind, f.Ref, own.Vals[i])
		}
		w.add(">")
	case f.Label == api.Repeated || f.Label == api.Packed:
		w.add("[")
		for _, v := range own.Vals {
			w.value(f.Kind, f.Ref, v)
		}
		w.add("]")
	default:
		if f.Kind != api.Message {
			w.add(":")
		}
		w.value(f.Kind, f.Ref, own.Vals[0])
	}
}

// shuffled tells the numbers below one in any order, in rare cases one of them twice.
func (w *writer) shuffled(count int) []int {
	var l []int
	for i := range count {
		l = slices.Insert(l, w.Below(i+1), i)
	}
	if count > 0 && w.Below(40) == 0 {
		l = append(l, w.Below(count))
	}
	return l
}

func (w *writer) value(kind, ref int, v api.Val) {
	switch kind {
	case api.Message:
		w.add("{")
		w.message(ref, v.M[0])
		w.add("}")
	case api.Enum:
		name, _ := table.Symbol(w.x, ref, int(v.N))
		w.add(name)
	default:
		s := samples.Pick(w.Maker, bare(kind, v)...)
		if digits, ok := strings.CutPrefix(s, "-"); ok {
			w.add("-")
			s = strings.TrimSpace(strings.TrimPrefix(digits, "/* */"))
		}
		w.add(s)
	}
}

func (w *writer) number(n uint64) {
	w.add(samples.Pick(w.Maker, bare(api.Uint64, api.Val{N: n})...))
}

func (w *writer) entry(u api.Entry) {
	w.add("?")
	w.number(uint64(u.Number))
	w.add("-")
	w.number(uint64(u.Kind))
	w.add(":")
	if u.Kind == api.Chunk {
		w.value(api.Bytes, 0, api.Val{B: u.B})
		return
	}
	w.number(u.N)
}

// laid tells words as a text, with blanks and comments of every kind between them; none where none need be, now and then.
func laid(m *samples.Maker, words []string) string {
	blank := func() string {
		return samples.Pick(m, " ", " ", "\t", "\r", "\n", "\r\n", "  ", "// } \" x\n", "/**/", "/* \" // {\n */", "/***/ ", " //\n\n")
	}
	var s strings.Builder
	last := byte(' ')
	for _, w := range words {
		if m.Below(2) == 0 || isLetter(last) && isLetter(w[0]) {
			s.WriteString(blank())
		}
		s.WriteString(w)
		last = w[len(w)-1]
	}
	s.WriteString(samples.Pick(m, "", "", " ", "\n", "// end", "/* end */"))
	return s.String()
}

func isLetter(c byte) bool {
	return c == '_' || c >= '0' && c <= '9' || c >= 'a' && c <= 'z' || c >= 'A' && c <= 'Z'
}

// strange tells a word that may be put in somewhere: one like that, more often than not.
func strange(m *samples.Maker, x api.Table, like string) string {
	var names []string
	for _, t := range x.Types {
		for _, f := range t.Fields {
			names = append(names, f.Name)
		}
		for _, s := range t.Symbols {
			names = append(names, s.Name)
		}
	}
	names = append(names, "zz", "true", "false", "f3F800000", "d3ff0000000000000", "f0")
	signs := strings.Split("{}[]<>:?-(;=.,", "")
	numbers := []string{"0", "1", "2", "3", "5", "0x5", "2147483647", "2147483648", "2147483649", "4294967295", "4294967296", "536870911", "536870912", "9223372036854775807", "9223372036854775808", "9223372036854775809", "18446744073709551615"}
	texts := []string{`""`, `"a"`, `"\xff"`, `"a\xc3"`, `"\xed\xa0\x80"`, `"\xc3\xa9"`, `"\xff\xff"`}
	if m.Below(3) > 0 {
		switch c := like[0]; {
		case c == '"':
			return samples.Pick(m, texts...)
		case c >= '0' && c <= '9':
			return samples.Pick(m, numbers...)
		case isLetter(c):
			return samples.Pick(m, names...)
		}
	}
	return samples.Pick(m, samples.Pick(m, names...), samples.Pick(m, signs...), samples.Pick(m, numbers...), samples.Pick(m, texts...))
}

// bent tells words, of which there is one at least, with one thing changed, so that there may be a fault among them.
func bent(m *samples.Maker, x api.Table, words []string) []string {
	l := slices.Clone(words)
	at := m.Below(len(l))
	switch m.Below(12) {
	case 0:
		return l[:at+1]
	case 1:
		return slices.Insert(l, at, strange(m, x, l[at]))
	case 2:
		return slices.Delete(l, at, at+1)
	case 3:
		other := max(at-1, 0)
		l[at], l[other] = l[other], l[at]
	case 4:
		l[at] = samples.Pick(m, l...)
	default:
		l[at] = strange(m, x, l[at])
	}
	return l
}
