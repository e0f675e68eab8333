package text_test

import (
	"fmt"
	"math"
	"strconv"
	"strings"
	"sync"
	"testing"
	"time"
	"unsafe"

	"cartouche/api"
	"cartouche/model"
	"cartouche/samples"
	"cartouche/table"
	"cartouche/text"
)

// ask asks both calls, and tells both answers; beside an error each answer must be zero.
func ask(t *testing.T, x api.Table, index int, m api.Msg, s string) (string, api.Errno, api.Errno) {
	t.Helper()
	printed, e := text.Print(x, index, m)
	read, f := text.Parse(x, index, s)
	if e != api.OK && printed != "" || f.Code != api.OK && told(read) != "{}" {
		t.Errorf("%s, %.300q: more than an error is told", shortly(m), s)
	}
	hasPlace := f.Line > 0 && f.Col > 0
	isBare := f.Code == api.OK || f.Code == api.ErrArg || f.Code == api.ErrTooBig
	if hasPlace == isBare || isBare && f.Line+f.Col != 0 || f.File != 0 {
		t.Errorf("%.300q: fault %v", s, f)
	}
	isArg := !table.Good(x) || index < 0 || index >= len(x.Types) || x.Types[index].Enum
	if isArg != (e == api.ErrArg) || isArg != (f.Code == api.ErrArg) {
		t.Errorf("index %d: errors %d, %d", index, e, f.Code)
	}
	return fmt.Sprintf("%q %d %s %v", printed, e, told(read), f), e, f.Code
}

// wildText tells a text of anything.
func wildText(m *samples.Maker, x api.Table) string {
	var s strings.Builder
	for range m.Below(30) {
		s.WriteString(samples.Pick(m, string([]byte{byte(m.Below(256))}), strange(m, x, "x"), strange(m, x, "1"), " ", "\n", "\"", "/*", "//", "#", "99999999999999999999", "1a", "x:", "m{", "}", "f:"))
	}
	return s.String()
}

// TestR1R2 has tables that are not good, any index, messages that are not typed, any text: none panics.
func TestR1R2(t *testing.T) {
	m := samples.New(118)
	printed, read := map[api.Errno]int{}, map[api.Errno]int{}
	for range 6000 {
		x, index := m.Sample()
		a := m.Message(x, index, 2)
		words := wordsOf(m, x, index, a)
		for range m.Below(3) {
			if len(words) > 0 {
				words = bent(m, x, words)
			}
		}
		s := laid(m, words)
		for _, spoil := range []func(){
			func() { x = m.Spoiled(x) },
			func() { index = samples.Pick(m, m.Below(len(x.Types)+2)-1, math.MinInt, math.MaxInt) },
			func() { a = m.Changed(a) },
			func() { a = m.Wild(3) },
			func() { s = wildText(m, x) },
			func() { s = s[:m.Below(len(s)+1)] },
			func() { at := m.Below(len(s) + 1); s = s[:at] + string([]byte{byte(m.Below(256))}) + s[at:] },
		} {
			if m.Below(6) == 0 {
				spoil()
			}
		}
		_, e, code := ask(t, x, index, a, s)
		printed[e]++
		read[code]++
	}
	for _, e := range []api.Errno{api.OK, api.ErrArg, api.ErrType} {
		if printed[e] < 500 {
			t.Errorf("Print: errors %v", printed)
		}
	}
	if read[api.OK] < 1000 || read[api.ErrArg] < 500 || read[api.ErrSyntax] < 1000 || len(read) < 10 {
		t.Errorf("Parse: errors %v", read)
	}
}

// TestR1Short has all texts of two bytes, and many of three and four.
func TestR1Short(t *testing.T) {
	for one := range 256 {
		lookAgain(t, em(), 1, string([]byte{byte(one)}))
		for two := range 256 {
			lookAgain(t, em(), 1, string([]byte{byte(one), byte(two)}))
		}
	}
	const few = "xlm:[{}]?-1 \"/*\n#"
	for i := range len(few) * len(few) * len(few) * len(few) {
		k := len(few)
		lookAgain(t, em(), 1, string([]byte{few[i%k], few[i/k%k], few[i/k/k%k], few[i/k/k/k]}))
	}
}

// soon sees that something has ended after some seconds: it would take far longer, if it went through anything again and again.
func soon(t *testing.T, what string, run func()) {
	t.Helper()
	begin := time.Now()
	run()
	if spent := time.Since(begin); spent > 20*time.Second {
		t.Errorf("%s took %v", what, spent)
	}
}

// TestR1Big has texts with as many parts as can be.
func TestR1Big(t *testing.T) {
	fill := func(ahead, one, behind string) string {
		return ahead + strings.Repeat(one, (api.MaxText-len(ahead+behind))/len(one)) + behind
	}
	soon(t, "texts of many words", func() {
		for _, s := range []string{
			fill("repeated[", "1 ", "]"), fill("repeated[", "0x1 ", "]"), fill("list[", "{}", "]"), fill("list[", "{list[]}", "]"), fill("", "?1-0:1 ", ""), fill("", `?1-2:""`, ""), fill("packed[", "d0000000000000000 ", "]"), fill("", "/**/", ""), fill("", "\n", ""), fill("last:\"", "a", "\""), fill("last:\"", `\x00`, "\""), fill("list[{", "b1{}}{", "}]"),
		} {
			m, f := text.Parse(wide(), 1, s)
			if f != fine {
				t.Errorf("%.30s ..: fault %v", s, f)
			}
			if printed, e := text.Print(wide(), 1, m); e != api.OK && e != api.ErrTooBig || e == api.OK && len(printed) > api.MaxText {
				t.Errorf("%.30s ..: error %d", s, e)
			}
		}
		for _, s := range []string{fill("", "x ", ""), fill("", "{", ""), fill("", "b1{", ""), fill("list[", "{list[", ""), fill("repeated[", "1 ", ""), fill("", "?", ""), fill("", "-", ""), fill("map<", "\"\":", ""), fill("", "}", "")} {
			if lookAgain(t, wide(), 1, s) == api.OK {
				t.Errorf("%.30s ..: taken", s)
			}
		}
	})
	soon(t, "many keys", func() {
		for _, falls := range []bool{false, true} {
			manyKeys(t, falls)
		}
	})
	soon(t, "the greatest table", func() {
		var m api.Msg
		var words []string
		for i := range api.MaxFields {
			m.Fields = append(m.Fields, field(i+1, num(int64(-i))))
			words = append(words, fmt.Sprintf("f%d : %d", i, -i))
		}
		lookAtPrinted(t, samples.Full(), 127, m, strings.Join(words, " "))
	})
}

// manyKeys has a map with as many keys as a text can have, rising or falling.
func manyKeys(t *testing.T, falls bool) {
	t.Helper()
	const most = 8000
	var s strings.Builder
	f := pairs(10)
	for i := range most {
		f.Keys, f.Vals = append(f.Keys, num(int64(i))), append(f.Vals, num(0))
		n := i
		if falls {
			n = most - 1 - i
		}
		s.WriteString(strconv.Itoa(n) + ":A ")
	}
	lookAtRead(t, wide(), 1, "numbers<"+s.String()+">", msg(f))
	lookAtMark(t, wide(), 1, "numbers<"+s.String()+"^17:A>", api.ErrDup)
}

// TestR1Great has messages that are far too great, and far too deep.
func TestR1Great(t *testing.T) {
	const many = 1 << 21
	soon(t, "great messages", func() {
		lookAtRefused(t, wide(), 1, msg(field(8, slicesOf(many, in(msg()))...)), api.ErrTooBig)
		lookAtRefused(t, wide(), 1, unknown(slicesOf(many, varint(1, 1))...), api.ErrTooBig)
		lookAtRefused(t, wide(), 1, msg(field(2, str(strings.Repeat("\x00", 1<<27)))), api.ErrTooBig)
		lookAtRefused(t, em(), 1, samples.Nested(3, 1<<16-1, msg(field(1, num(1)))), api.ErrTooDeep)
		lookAtRefused(t, em(), 1, samples.Nested(3, 1<<16-1, msg(field(1))), api.ErrType)
	})
	long := strings.Repeat("n", api.MaxText)
	x := samples.Table(samples.Message("M", api.FieldType{Name: long, Number: 1, Kind: api.Message, Label: api.Optional}, api.FieldType{Name: long[:api.MaxText-4], Number: 2, Kind: api.Message, Label: api.Optional}))
	lookAtRefused(t, x, 0, msg(field(1, in(msg()))), api.ErrTooBig)
	lookAtPrinted(t, x, 0, msg(field(2, in(msg()))), long[:api.MaxText-4]+" { }")
	lookAtFault(t, x, 0, long, api.Fault{Code: api.ErrSyntax, Line: 1, Col: api.MaxText + 1})
}

func slicesOf[T any](count int, one T) []T {
	l := make([]T, count)
	for i := range l {
		l[i] = one
	}
	return l
}

func TestR4Arguments(t *testing.T) {
	m := samples.New(119)
	for range 1500 {
		x, index := m.Sample()
		a := samples.WithRoom(m.Message(x, index, 3))
		s := laid(m, wordsOf(m, x, index, a))
		if m.Below(4) == 0 {
			a = samples.WithRoom(m.Wild(2))
		}
		types, message := fmt.Sprintf("%+v", x), samples.Wholly(a)
		ask(t, x, index, a, s)
		if fmt.Sprintf("%+v", x) != types || samples.Wholly(a) != message {
			t.Errorf("changed: %s", message)
		}
	}
}

// TestR4AnswersAreNew sees that no two lists of an answer share memory, and that two answers share none.
func TestR4AnswersAreNew(t *testing.T) {
	m := samples.New(120)
	for range 1500 {
		x, index := m.Sample()
		s := laid(m, wordsOf(m, x, index, m.Message(x, index, 3)))
		one, f := text.Parse(x, index, s)
		two, _ := text.Parse(x, index, s)
		if f == fine && (samples.Shares(one) || samples.Shares(one, two)) {
			t.Errorf("Parse(%.400s): %s shares memory", s, shortly(one))
		}
		was := told(two)
		samples.Touch{Bytes: func(b *[]byte) { clear((*b)[:cap(*b)]) }, Vals: func(l *[]api.Val) { *l = nil }}.Message(&one)
		if told(two) != was {
			t.Errorf("Parse(%.400s): %s is %s now", s, was, shortly(two))
		}
	}
	x := wide()
	s, _ := text.Print(x, 1, msg(field(5, in(msg()))))
	for _, f := range x.Types[1].Fields {
		if unsafe.StringData(s) == unsafe.StringData(f.Name) {
			t.Errorf("%q begins with the table's %q", s, f.Name)
		}
	}
}

// TestR4EmptyLists sees that nil and an empty list are one.
func TestR4EmptyLists(t *testing.T) {
	m := samples.New(121)
	for range 1500 {
		x, index := m.Sample()
		a := m.Message(x, index, 3)
		if m.Below(3) == 0 {
			a = m.Changed(a)
		}
		one, _, _ := ask(t, x, index, a, "")
		if two, _, _ := ask(t, x, index, samples.Emptied(a), ""); one != two {
			t.Errorf("%s with empty lists: %.400s, want %.400s", shortly(a), two, one)
		}
	}
}

// TestR5Many asks from many goroutines at a time, of one table, the same messages and texts.
func TestR5Many(t *testing.T) {
	m := samples.New(122)
	x := wide()
	var given []api.Msg
	var texts, want []string
	for range 40 {
		a := m.Message(x, 1, 3)
		s := laid(m, wordsOf(m, x, 1, m.Message(x, 1, 3)))
		answer, _, _ := ask(t, x, 1, a, s)
		given, texts, want = append(given, a), append(texts, s), append(want, answer)
	}
	var group sync.WaitGroup
	for worker := range 8 {
		group.Go(func() {
			for step := range 100 {
				i := (7*worker + step) % len(given)
				if got, _, _ := ask(t, x, 1, given[i], texts[i]); got != want[i] {
					t.Errorf("text %d: %.400s, want %.400s", i, got, want[i])
				}
			}
		})
	}
	group.Wait()
}

// TestR6First sees that the table and the index are asked ahead of all else, words ahead of what they say, and what is typed ahead of depth and size.
func TestR6First(t *testing.T) {
	x := em()
	x.Types[1].Name = ""
	bad := samples.Nested(3, 20, msg(field(9)))
	for _, s := range []string{"x:1 #", "y", strings.Repeat("x", api.MaxText+1)} {
		lookAtFault(t, x, 1, s, api.Fault{Code: api.ErrArg})
		lookAtFault(t, em(), 0, s, api.Fault{Code: api.ErrArg})
		lookAtFault(t, em(), 2, s, api.Fault{Code: api.ErrArg})
	}
	lookAtRefused(t, x, 1, bad, api.ErrArg)
	lookAtRefused(t, em(), -1, bad, api.ErrArg)
	lookAtRefused(t, em(), 1, bad, api.ErrType)
	lookAtMark(t, em(), 1, "y:1 x:x ? 0 ^#", api.ErrSyntax)
	lookAtMark(t, em(), 1, "^y:1 x:x ? 0", api.ErrName)
	if ok, _ := model.Typed(em(), 1, bad); ok {
		t.Error("typed")
	}
}

// TestR7 has numbers in texts that are told: by base ten, a minus ahead below 0, no noughts ahead.
func TestR7(t *testing.T) {
	for _, row := range []struct {
		s, want string
	}{
		{"x:000", "x : 0"}, {"x:-0", "x : 0"}, {"x:-0x0A", "x : -10"}, {"x:0x7fffffff", "x : 2147483647"}, {"x : - 2147483648", "x : -2147483648"}, {"l[007 0xff 0]", "l [ 7 255 0 ]"}, {"?0x0f-005:0x00ffffffff", "? 15 - 5 : 4294967295"}, {"?1-0:0xffffffffffffffff", "? 1 - 0 : 18446744073709551615"},
	} {
		m, f := text.Parse(em(), 1, row.s)
		if f != fine {
			t.Errorf("%s: fault %v", row.s, f)
		}
		lookAtPrinted(t, em(), 1, m, row.want)
	}
}
