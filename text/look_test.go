package text_test

import (
	"fmt"
	"strconv"
	"strings"
	"testing"

	"cartouche/api"
	"cartouche/model"
	"cartouche/quote"
	"cartouche/samples"
	"cartouche/text"
)

var (
	em, wide, single       = samples.Small, samples.Wide, samples.Single
	num, str, in, values   = samples.Num, samples.Str, samples.In, samples.Values
	msg, field, pairs      = samples.Msg, samples.Field, samples.Pairs
	unknown, chunk, varint = samples.Unknown, samples.Chunk, samples.Varint
	told, shortly          = samples.Told, samples.Shortly
)

// In the tables that single tells.
const (
	around = samples.Around
	number = samples.Number
)

// oneLabels and listLabels are the labels of one value, and of lists without keys.
var (
	oneLabels  = [...]int{api.Plain, api.Optional, api.Member}
	listLabels = [...]int{api.Repeated, api.Packed}
)

// with tells a message with entries that are not known.
func with(m api.Msg, l ...api.Entry) api.Msg { return api.Msg{Fields: m.Fields, Unknown: l} }

func fix32(number int, n uint64) api.Entry {
	return api.Entry{Number: number, Kind: api.Fix32, N: n}
}

func fix64(number int, n uint64) api.Entry {
	return api.Entry{Number: number, Kind: api.Fix64, N: n}
}

// hasMinus tells whether a kind's numbers may be below 0, by the chapter's words.
func hasMinus(kind int) bool {
	return strings.Contains(" 2 3 6 7 10 11 ", fmt.Sprintf(" %d ", kind))
}

// spelt tells a value's words, a blank between: an enum's by samples.Symbols, a message's by the type Inner of what single tells.
func spelt(kind int, v api.Val) string {
	switch kind {
	case api.Bool:
		return strconv.FormatBool(v.N == 1)
	case api.Float:
		return fmt.Sprintf("f%08x", v.N)
	case api.Double:
		return fmt.Sprintf("d%016x", v.N)
	case api.String, api.Bytes:
		return quote.Quote(v.B)
	case api.Enum:
		return map[uint64]string{0: "A", 5: "B", 1<<31 - 1: "C"}[v.N]
	case api.Message:
		return map[string]string{"{}": "{ }", "{1[5]}": "{ x : 5 }", `{ ? 9 0 1 ""}`: "{ ? 9 - 0 : 1 }"}[told(v.M[0])]
	}
	if hasMinus(kind) {
		return strconv.FormatInt(int64(v.N), 10)
	}
	return strconv.FormatUint(v.N, 10)
}

// lookAtPrinted sees that a message has that text, and that it is read out of it.
func lookAtPrinted(t *testing.T, x api.Table, index int, m api.Msg, want string) {
	t.Helper()
	got, e := text.Print(x, index, m)
	if e != api.OK || got != want {
		t.Errorf("Print(%s): %.300s, error %d; want %.300s", shortly(m), got, e, want)
	}
	lookAtRead(t, x, index, want, m)
}

// lookAtRefused sees that Print tells that error, and nothing beside.
func lookAtRefused(t *testing.T, x api.Table, index int, m api.Msg, want api.Errno) {
	t.Helper()
	if got, e := text.Print(x, index, m); e != want || got != "" {
		t.Errorf("Print(%s): %.300q, error %d; want error %d", shortly(m), got, e, want)
	}
}

func lookAtRead(t *testing.T, x api.Table, index int, s string, want api.Msg) {
	t.Helper()
	got, f := text.Parse(x, index, s)
	if f != (api.Fault{}) || told(got) != told(want) {
		t.Errorf("Parse(%.300s): %s, fault %v; want %s", s, shortly(got), f, shortly(want))
	}
	if ok, _ := model.Typed(x, index, got); !ok {
		t.Errorf("Parse(%.300s): %s is not typed", s, shortly(got))
	}
}

// lookAtFault sees that Parse tells that fault, and nothing beside.
func lookAtFault(t *testing.T, x api.Table, index int, s string, want api.Fault) {
	t.Helper()
	if got, f := text.Parse(x, index, s); f != want || told(got) != "{}" {
		t.Errorf("Parse(%.300s): %s, fault %v; want %v", s, shortly(got), f, want)
	}
}

// mark stands in a text ahead of the word at which the fault is seen. No text that is asked holds one.
const mark = "^"

// lookAtMark sees that a text, without its mark, has that fault where the mark stood: as it is, and with lines and comments ahead of all.
func lookAtMark(t *testing.T, x api.Table, index int, marked string, e api.Errno) {
	t.Helper()
	for _, ahead := range []string{"", " ", "\n\n", "/* \n */ ", "// x\n\t"} {
		s := ahead + marked
		at := strings.Index(s, mark)
		if at < 0 || strings.Count(s, mark) > 1 {
			t.Fatalf("%.300s: not one mark", s)
		}
		before := s[:at]
		place := api.Fault{Code: e, Line: 1 + strings.Count(before, "\n"), Col: at - strings.LastIndex(before, "\n")}
		lookAtFault(t, x, index, before+s[at+len(mark):], place)
	}
}
