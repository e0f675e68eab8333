package quote_test

import (
	"bytes"
	"testing"

	"cartouche/quote"
)

// written is a number in so many bytes by UTF-8's rule, whether it may be written so or not.
func written(n, size int) []byte {
	if size == 1 {
		return []byte{byte(n)}
	}
	b := make([]byte, size)
	for i := size - 1; i > 0; i-- {
		b[i] = byte(0x80 | n&0x3f)
		n >>= 6
	}
	// Of so many ones ahead a first byte has as there are bytes, and a nought behind them.
	b[0] = byte(0xff<<(8-size)) | byte(n)
	return b
}

// fewest is the fewest bytes that will do for a number.
func fewest(n int) int {
	switch {
	case n < 0x80:
		return 1
	case n < 0x800:
		return 2
	case n < 0x10000:
		return 3
	}
	return 4
}

func isCharacter(n int) bool {
	return n < 0xd800 || n > 0xdfff && n <= 0x10ffff
}

func lookAtValid(t *testing.T, b []byte, valid bool, runes int) {
	t.Helper()
	if got := quote.Valid(b); got != valid {
		t.Errorf("Valid(% x): %v", b, got)
	}
	if got := quote.Runes(b); got != runes {
		t.Errorf("Runes(% x): %d, want %d", b, got, runes)
	}
}

func TestP2_1Examples(t *testing.T) {
	lookAtValid(t, []byte{195, 164}, true, 1)
	lookAtValid(t, []byte{192, 128}, false, 0)
	lookAtValid(t, []byte{237, 160, 128}, false, 0)
	lookAtValid(t, []byte{244, 144, 128, 128}, false, 0)
	lookAtValid(t, []byte{}, true, 0)
	lookAtValid(t, nil, true, 0)
	lookAtValid(t, []byte{97, 195, 164}, true, 2)
	lookAtValid(t, []byte{255}, false, 0)
}

// TestP2_1Edges asks for the least and the greatest character of each size, and for their neighbours that are none.
func TestP2_1Edges(t *testing.T) {
	for _, c := range []struct {
		b     []byte
		valid bool
	}{
		{[]byte{0x00}, true},
		{[]byte{0x7f}, true},
		{[]byte{0x80}, false},
		{[]byte{0xbf}, false},
		{[]byte{0xc1, 0xbf}, false},
		{[]byte{0xc2, 0x80}, true},
		{[]byte{0xc2, 0x7f}, false},
		{[]byte{0xc2, 0xc0}, false},
		{[]byte{0xdf, 0xbf}, true},
		{[]byte{0xe0, 0x9f, 0xbf}, false},
		{[]byte{0xe0, 0xa0, 0x80}, true},
		{[]byte{0xed, 0x9f, 0xbf}, true},
		{[]byte{0xed, 0xa0, 0x80}, false},
		{[]byte{0xed, 0xbf, 0xbf}, false},
		{[]byte{0xee, 0x80, 0x80}, true},
		{[]byte{0xef, 0xbf, 0xbd}, true}, // what ranging over a string tells for faults
		{[]byte{0xef, 0xbf, 0xbf}, true},
		{[]byte{0xf0, 0x8f, 0xbf, 0xbf}, false},
		{[]byte{0xf0, 0x90, 0x80, 0x80}, true},
		{[]byte{0xf4, 0x8f, 0xbf, 0xbf}, true},
		{[]byte{0xf4, 0x90, 0x80, 0x80}, false},
		{[]byte{0xf5, 0x80, 0x80, 0x80}, false},
		{[]byte{0xf8, 0x88, 0x80, 0x80, 0x80}, false},
		{[]byte{0xfc, 0x84, 0x80, 0x80, 0x80, 0x80}, false},
		{[]byte{0xfe}, false},
		{[]byte{0xff}, false},
	} {
		runes := 0
		if c.valid {
			runes = 1
		}
		lookAtValid(t, c.b, c.valid, runes)
	}
}

// TestP2_1EveryNumber writes every number of up to 21 bits in every size that holds it.
func TestP2_1EveryNumber(t *testing.T) {
	rooms := []int{0x80, 0x800, 0x10000, 0x200000}
	for i, room := range rooms {
		size := i + 1
		for n := range room {
			valid := isCharacter(n) && size == fewest(n)
			b := written(n, size)
			if quote.Valid(b) != valid || quote.Runes(b) == 1 != valid {
				t.Fatalf("%x in %d bytes: Valid %v, Runes %d", n, size, quote.Valid(b), quote.Runes(b))
			}
		}
	}
}

// TestP2_1EndsWithin asks for characters of every size that lack bytes, at the end and ahead of another one.
func TestP2_1EndsWithin(t *testing.T) {
	for _, whole := range [][]byte{{0xc3, 0xa4}, {0xe2, 0x82, 0xac}, {0xef, 0xbf, 0xbd}, {0xf0, 0x9f, 0x98, 0x80}, {0xf4, 0x8f, 0xbf, 0xbf}} {
		lookAtValid(t, whole, true, 1)
		lookAtValid(t, bytes.Join([][]byte{[]byte("a"), whole, []byte("b")}, nil), true, 3)
		for size := 1; size < len(whole); size++ {
			lookAtValid(t, whole[:size], false, 0)
			lookAtValid(t, append([]byte("ab"), whole[:size]...), false, 0)
			lookAtValid(t, append(bytes.Clone(whole[:size]), 'a'), false, 0)
			lookAtValid(t, append(bytes.Clone(whole[:size]), whole...), false, 0)
		}
		for from := 1; from < len(whole); from++ {
			lookAtValid(t, whole[from:], false, 0)
			lookAtValid(t, append(bytes.Clone(whole), whole[from:]...), false, 0)
		}
	}
}

// TestP2_1FaultAnywhere lays one bad byte at every place of a valid text, among it characters that tell a fault elsewhere.
func TestP2_1FaultAnywhere(t *testing.T) {
	text := []byte("a\u00e4\u20ac\ufffd\ufffd\U0001f600\x00z")
	lookAtValid(t, text, true, 8)
	for at := range len(text) + 1 {
		for _, bad := range []byte{0x80, 0xc0, 0xf5, 0xff} {
			b := append(append(bytes.Clone(text[:at]), bad), text[at:]...)
			lookAtValid(t, b, false, 0)
		}
	}
}

// TestP2_1Long asks for texts past MaxText: neither call has a bound.
func TestP2_1Long(t *testing.T) {
	const times = 70000
	b := bytes.Repeat([]byte("\u20ac"), times)
	lookAtValid(t, b, true, times)
	if b = b[:len(b)-1]; quote.Valid(b) || quote.Runes(b) != 0 {
		t.Errorf("a long text that ends within a character: Valid %v, Runes %d", quote.Valid(b), quote.Runes(b))
	}
}

// texts are valid ones that begin and end with characters of every size.
func texts() []string {
	return []string{"", "a", "\x00", "\x7f", "\u0080", "\u07ff", "\u0800", "\ud7ff", "\ue000", "\ufffd", "\uffff", "\U00010000", "\U0010ffff", "ab", "\u00e4b", "a\u20ac", "\U0001f600\u00e4", "\"\\\n"}
}

func TestP2_4ValidTextsAddUp(t *testing.T) {
	for _, a := range texts() {
		for _, b := range texts() {
			sum := quote.Runes([]byte(a)) + quote.Runes([]byte(b))
			lookAtValid(t, []byte(a+b), true, sum)
		}
	}
}
