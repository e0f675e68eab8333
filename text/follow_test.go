package text_test

import (
	"slices"
	"strings"
	"testing"

	"cartouche/api"
	"cartouche/lex"
	"cartouche/model"
	"cartouche/samples"
	"cartouche/text"
)

// TestP11_3Back: Parse of what Print tells is the message, normal or not (T3).
func TestP11_3Back(t *testing.T) {
	m := samples.New(114)
	var normal, other int
	for range 4000 {
		x, index := m.Sample()
		a := m.Message(x, index, 3)
		if m.Below(2) == 0 {
			a, _ = model.Settle(x, index, a)
		}
		s, e := text.Print(x, index, a)
		if e == api.ErrTooBig {
			continue
		}
		back, f := text.Parse(x, index, s)
		if e != api.OK || f != fine || !model.Equal(back, a) || told(back) != told(a) {
			t.Errorf("%s: printed %.400s, error %d, and read %s, fault %v", shortly(a), s, e, shortly(back), f)
		}
		if ok, _ := model.Normal(x, index, a); ok {
			normal++
		} else {
			other++
		}
	}
	if normal < 1500 || other < 1000 {
		t.Errorf("%d normal messages, %d others", normal, other)
	}
	for _, a := range append(sized(api.MaxText), samples.Nested(8, 15, unknown(varint(99, 1), chunk(98, "a"), varint(99, 0)))) {
		s, e := text.Print(wide(), 1, a)
		if back, f := text.Parse(wide(), 1, s); e != api.OK || f != fine || !model.Equal(back, a) {
			t.Errorf("%s: error %d, fault %v", shortly(a), e, f)
		}
	}
}

// TestP11_3Values: so it is of each kind's values in each label, the least and the greatest ones.
func TestP11_3Values(t *testing.T) {
	for kind := api.Bool; kind <= api.Message; kind++ {
		good, _ := values(kind)
		for label := api.Plain; label <= api.Map; label++ {
			if !samples.CanBe(kind, label) {
				continue
			}
			for _, key := range samples.KeyKinds() {
				f := field(number, good[len(good)-1])
				switch label {
				case api.Repeated, api.Packed:
					f.Vals = good
				case api.Map:
					f.Keys = samples.Rising(key)
					f.Vals = slices.Repeat(good, len(f.Keys))[:len(f.Keys)]
				}
				if label != api.Map {
					key = 0
				}
				s, e := text.Print(single(kind, label, key), around, msg(f))
				if e != api.OK {
					t.Errorf("kind %d, label %d, key %d: error %d", kind, label, key, e)
				}
				lookAtRead(t, single(kind, label, key), around, s, msg(f))
			}
		}
	}
}

// TestP11_3Blanks: comments and blanks between words change nothing of the message.
func TestP11_3Blanks(t *testing.T) {
	m := samples.New(115)
	for range 2500 {
		x, index := m.Sample()
		a := m.Message(x, index, 2)
		s, e := text.Print(x, index, a)
		words, f := lex.Split(s)
		if e != api.OK || f != fine {
			t.Errorf("%s: error %d, fault %v", shortly(a), e, f)
		}
		var l []string
		for _, w := range words[:len(words)-1] {
			l = append(l, w.S)
		}
		lookAtRead(t, x, index, laid(m, l), a)
		lookAtRead(t, x, index, laid(m, l), a)
		for _, blank := range []string{"\n", "\t\r\n ", "/**/", "/* ? */", "// x : {\n"} {
			lookAtRead(t, x, index, blank+strings.Join(l, blank)+blank, a)
		}
	}
}

// TestP11_3Faults: they change nothing of a fault but its place, which is that of the same word.
func TestP11_3Faults(t *testing.T) {
	m := samples.New(116)
	faults := 0
	for range 2500 {
		x, index := m.Sample()
		words := wordsOf(m, x, index, m.Message(x, index, 2))
		for range 1 + m.Below(2) {
			if len(words) > 0 {
				words = bent(m, x, words)
			}
		}
		code, at := placeIn(t, x, index, strings.Join(words, " "))
		for range 3 {
			if again, place := placeIn(t, x, index, laid(m, words)); again != code || place != at {
				t.Errorf("%.400s: error %d at word %d, and with other blanks error %d at word %d", strings.Join(words, " "), code, at, again, place)
			}
		}
		if code != api.OK {
			faults++
		}
	}
	if faults < 1000 {
		t.Errorf("%d faults", faults)
	}
}

// placeIn tells which error Parse tells, and at which word.
func placeIn(t *testing.T, x api.Table, index int, s string) (api.Errno, int) {
	t.Helper()
	_, f := text.Parse(x, index, s)
	if f == fine {
		return api.OK, 0
	}
	words, _ := lex.Split(s)
	at := slices.IndexFunc(words, func(w lex.Word) bool { return w.Line == f.Line && w.Col == f.Col })
	if at < 0 || f.File != 0 {
		t.Errorf("%.400s: fault %v is at no word", s, f)
	}
	return f.Code, at
}

// TestP11_3Again: what is read out of any text is printed as a text out of which the same is read; printed again it is the same text.
func TestP11_3Again(t *testing.T) {
	m := samples.New(117)
	reads := 0
	for range 3000 {
		x, index := m.Sample()
		words := wordsOf(m, x, index, m.Message(x, index, 2))
		if len(words) > 0 && m.Below(4) == 0 {
			words = bent(m, x, words)
		}
		a, f := text.Parse(x, index, laid(m, words))
		if f != fine {
			continue
		}
		reads++
		s, e := text.Print(x, index, a)
		if e != api.OK {
			t.Errorf("%s: error %d", shortly(a), e)
		}
		lookAtPrinted(t, x, index, a, s)
	}
	if reads < 1500 {
		t.Errorf("%d texts were read", reads)
	}
}
