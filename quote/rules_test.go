package quote_test

import (
	"bytes"
	"math/rand"
	"testing"

	"cartouche/api"
	"cartouche/quote"
)

// lookBack sees that bytes come back, and that their quoted text has no byte but 32 to 126.
func lookBack(t *testing.T, b []byte) {
	t.Helper()
	s := quote.Quote(b)
	for at := range len(s) {
		if s[at] < 32 || s[at] > 126 {
			t.Errorf("Quote(%v): byte %d at %d", b, s[at], at)
		}
	}
	if got, e := quote.Unquote(s); e != api.OK || !bytes.Equal(got, b) {
		t.Errorf("Unquote(Quote(%v)): %v, error %d", b, got, e)
	}
}

func TestP2_4BackFewBytes(t *testing.T) {
	lookBack(t, nil)
	for first := range 256 {
		lookBack(t, []byte{byte(first)})
		for second := range 256 {
			lookBack(t, []byte{byte(first), byte(second)})
		}
	}
}

func TestP2_4BackChance(t *testing.T) {
	chance := rand.New(rand.NewSource(1))
	const letters = "\"\\ntrx0aA\n\t\r\x00\x7f\xc3\xa4\xff ~"
	for range 2000 {
		b := make([]byte, chance.Intn(60))
		for i := range b {
			b[i] = letters[chance.Intn(len(letters))]
		}
		lookBack(t, b)
	}
}

// TestP2_4BackLongest goes as far as Unquote takes what Quote tells.
func TestP2_4BackLongest(t *testing.T) {
	lookBack(t, bytes.Repeat([]byte{'a'}, api.MaxText-2))
	lookBack(t, bytes.Repeat([]byte{'"'}, api.MaxText/2-1))
	most := bytes.Repeat([]byte{0}, (api.MaxText-2)/4)
	lookBack(t, most)
	if b, e := quote.Unquote(quote.Quote(append(most, 0))); e != api.ErrTooBig || len(b) > 0 {
		t.Errorf("one byte more: %d bytes, error %d", len(b), e)
	}
}

// TestR1R2 asks every call for many byte strings: none panics, and with an error nothing else is answered.
func TestR1R2(t *testing.T) {
	heads := []byte{0, 9, 10, 13, '"', '\\', 'x', 'n', '0', 'f', 0x7f, 0x80, 0xbf, 0xc3, 0xe2, 0xf0, 0xff}
	all := [][]byte{nil}
	for from, size := 0, 0; size < 4; size++ {
		to := len(all)
		for _, s := range all[from:to] {
			for _, c := range heads {
				all = append(all, append(bytes.Clone(s), c))
			}
		}
		from = to
	}
	for _, b := range all {
		if !quote.Valid(b) && quote.Runes(b) != 0 {
			t.Errorf("Runes(%v): %d, but it is not valid", b, quote.Runes(b))
		}
		quote.Quote(b)
		for _, s := range []string{string(b), `"` + string(b), `"` + string(b) + `"`} {
			if got, e := quote.Unquote(s); e != api.OK && (len(got) > 0 || e != api.ErrSyntax) {
				t.Errorf("Unquote(%q): %v beside error %d", s, got, e)
			}
		}
	}
}

// TestR4ArgumentsStay looks at what was handed in, spare room too.
func TestR4ArgumentsStay(t *testing.T) {
	for _, text := range []string{"", "a", "a\"\n\\\x00\xc3", "\u00e4\u20ac", "\xff\xff"} {
		whole := append([]byte(text), bytes.Repeat([]byte{0xee}, 40)...)
		before := bytes.Clone(whole)
		b := whole[:len(text)]
		quote.Valid(b)
		quote.Runes(b)
		s := quote.Quote(b)
		if !bytes.Equal(whole, before) {
			t.Errorf("%q was changed: % x", text, whole)
		}
		clear(whole)
		if s != quote.Quote([]byte(text)) {
			t.Errorf("Quote(%q) changed with what was handed in: %s", text, s)
		}
	}
}

// TestR4AnswersAreNew spoils what Unquote answered, and asks again.
func TestR4AnswersAreNew(t *testing.T) {
	s := `"a\x41\"bc"`
	first, e := quote.Unquote(s)
	if e != api.OK {
		t.Fatalf("Unquote: error %d", e)
	}
	other, _ := quote.Unquote(s)
	room := first[:cap(first)]
	for i := range room {
		room[i] ^= 0xff
	}
	lookAtUnquote(t, s, 'a', 'A', '"', 'b', 'c')
	if string(other) != `aA"bc` {
		t.Errorf("an answer changed with another one: %v", other)
	}
}
