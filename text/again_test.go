package text_test

import (
	"fmt"
	"strings"
	"testing"

	"cartouche/api"
	"cartouche/model"
	"cartouche/samples"
	"cartouche/table"
	"cartouche/text"
)

// lookAgain holds Parse against the second reading, and tells which error both tell.
func lookAgain(t *testing.T, x api.Table, index int, s string) api.Errno {
	t.Helper()
	got, f := text.Parse(x, index, s)
	want, wantF := readAgain(x, index, s)
	if f != wantF || told(got) != told(want) {
		t.Errorf("Parse(%.400s): %s, fault %v; want %s, fault %v", s, shortly(got), f, shortly(want), wantF)
	}
	if ok, e := model.Typed(x, index, got); f == fine && (!ok || e != api.OK) {
		t.Errorf("Parse(%.400s): %s is not typed", s, shortly(got))
	}
	return f.Code
}

// TestParseAgain has chance texts, with faults and without.
func TestParseAgain(t *testing.T) {
	m := samples.New(112)
	seen := map[api.Errno]int{}
	for range 10000 {
		x, index := m.Sample()
		a := m.Message(x, index, 2)
		if m.Below(10) == 0 {
			a = deepened(m, x, index, a)
		}
		words := wordsOf(m, x, index, a)
		for range m.Below(3) {
			if len(words) > 0 {
				words = bent(m, x, words)
			}
		}
		seen[lookAgain(t, x, index, laid(m, words))]++
	}
	for _, e := range []api.Errno{api.OK, api.ErrTooDeep, api.ErrNumber, api.ErrKind, api.ErrRange, api.ErrText, api.ErrSymbol, api.ErrSyntax, api.ErrName, api.ErrDup} {
		if seen[e] < 20 {
			t.Errorf("error %d: %d times", e, seen[e])
		}
	}
	if len(seen) != 10 || seen[api.OK] < 3000 || seen[api.ErrSyntax] < 2000 {
		t.Errorf("errors: %v", seen)
	}
}

// TestParseFewWords has all texts of few words, of those that mean something to a type.
func TestParseFewWords(t *testing.T) {
	for _, row := range []struct {
		x     api.Table
		index int
		words []string
		most  int
	}{
		{em(), 1, strings.Fields("x l m zz : [ ] { } ? - 1 0x5 \"a\""), 4},
		{em(), 1, strings.Fields("x : - 1 2147483648 m { }"), 5},
		{wide(), 1, strings.Fields("numbers < > - 1 : A map \"a\" { }"), 4},
		{wide(), 1, strings.Fields("a1 a2 b1 : 1 { }"), 5},
		{single(api.Enum, api.Map, api.Bool), around, strings.Fields("f < true : A B false >"), 5},
	} {
		texts := []string{""}
		for count := range row.most + 1 {
			var longer []string
			for _, s := range texts {
				lookAgain(t, row.x, row.index, s)
				for _, w := range row.words {
					if count < row.most {
						longer = append(longer, s+" "+w)
					}
				}
			}
			texts = longer
		}
	}
}

// printedAgain tells a message's words by the chapter's words, a second time.
func printedAgain(x api.Table, index int, m api.Msg) []string {
	var l []string
	for _, o := range m.Fields {
		f, _ := table.Field(x, index, o.Number)
		l = append(l, f.Name)
		item := func(v api.Val) {
			switch f.Kind {
			case api.Message:
				l = append(append(append(l, "{"), printedAgain(x, f.Ref, v.M[0])...), "}")
			case api.Enum:
				name, _ := table.Symbol(x, f.Ref, int(v.N))
				l = append(l, name)
			default:
				l = append(l, spelt(f.Kind, v))
			}
		}
		around := map[int][2]string{api.Repeated: {"[", "]"}, api.Packed: {"[", "]"}, api.Map: {"<", ">"}}[f.Label]
		if around[0] != "" {
			l = append(l, around[0])
		} else if f.Kind != api.Message {
			l = append(l, ":")
		}
		for i, v := range o.Vals {
			if f.Label == api.Map {
				l = append(l, spelt(f.Key, o.Keys[i]), ":")
			}
			item(v)
		}
		if around[1] != "" {
			l = append(l, around[1])
		}
	}
	for _, u := range m.Unknown {
		rest := fmt.Sprint(u.N)
		if u.Kind == api.Chunk {
			rest = spelt(api.Bytes, api.Val{B: u.B})
		}
		l = append(l, "?", fmt.Sprint(u.Number), "-", fmt.Sprint(u.Kind), ":", rest)
	}
	return l
}

func TestPrintAgain(t *testing.T) {
	m := samples.New(113)
	seen := map[api.Errno]int{}
	for range 6000 {
		x, index := m.Sample()
		a := m.Message(x, index, 3)
		if m.Below(10) == 0 {
			a = deepened(m, x, index, a)
		}
		if m.Below(10) == 0 {
			a = m.Changed(a)
		}
		want, wantE := "", api.OK
		if ok, _ := model.Typed(x, index, a); !ok {
			wantE = api.ErrType
		} else if model.Depth(a) > api.MaxDepth {
			wantE = api.ErrTooDeep
		} else if want = strings.Join(printedAgain(x, index, a), " "); len(want) > api.MaxText {
			want, wantE = "", api.ErrTooBig
		}
		if got, e := text.Print(x, index, a); got != want || e != wantE {
			t.Errorf("Print(%s): %.400s, error %d; want %.400s, error %d", shortly(a), got, e, want, wantE)
		}
		seen[wantE]++
	}
	if seen[api.OK] < 4000 || seen[api.ErrType] < 200 || seen[api.ErrTooDeep] < 50 {
		t.Errorf("errors: %v", seen)
	}
}
