package quote_test

import (
	"bytes"
	"fmt"
	"strings"
	"testing"

	"cartouche/api"
	"cartouche/quote"
)

func lookAtQuote(t *testing.T, b []byte, want string) {
	t.Helper()
	if got := quote.Quote(b); got != want {
		t.Errorf("Quote(%v): %s, want %s", b, got, want)
	}
}

func TestP2_2Examples(t *testing.T) {
	lookAtQuote(t, []byte{97, 34, 10, 0, 195}, `"a\"\n\x00\xc3"`)
	lookAtQuote(t, nil, `""`)
	lookAtQuote(t, []byte{}, `""`)
	lookAtQuote(t, []byte("a b'/~"), `"a b'/~"`)
	lookAtQuote(t, []byte("\u00e4"), `"\xc3\xa4"`)
	lookAtQuote(t, []byte(`\n`), `"\\n"`)
}

func TestP2_2Edges(t *testing.T) {
	for _, c := range []struct {
		b    byte
		want string
	}{
		{0, `\x00`}, {8, `\x08`}, {9, `\t`}, {10, `\n`}, {11, `\x0b`}, {12, `\x0c`}, {13, `\r`}, {14, `\x0e`}, {31, `\x1f`},
		{32, ` `}, {33, `!`}, {34, `\"`}, {35, `#`}, {39, `'`}, {91, `[`}, {92, `\\`}, {93, `]`}, {126, `~`},
		{127, `\x7f`}, {128, `\x80`}, {160, `\xa0`}, {171, `\xab`}, {205, `\xcd`}, {239, `\xef`}, {255, `\xff`},
	} {
		lookAtQuote(t, []byte{c.b}, `"`+c.want+`"`)
		lookAtQuote(t, []byte{'x', c.b, c.b, 'y'}, `"x`+c.want+c.want+`y"`)
	}
}

// TestP2_2EveryByte holds each byte against the promise's words.
func TestP2_2EveryByte(t *testing.T) {
	signs := map[int]string{34: `\"`, 92: `\\`, 10: `\n`, 9: `\t`, 13: `\r`}
	for n := range 256 {
		want, signed := signs[n]
		switch {
		case signed:
		case n < 32 || n > 126:
			want = fmt.Sprintf(`\x%02x`, n)
		default:
			want = string(rune(n))
		}
		lookAtQuote(t, []byte{byte(n)}, `"`+want+`"`)
	}
}

// TestP2_2Long asks for more than MaxText bytes: Quote has no bound.
func TestP2_2Long(t *testing.T) {
	const times = api.MaxText + 1
	lookAtLength := func(b byte, part string) {
		t.Helper()
		if quote.Quote(bytes.Repeat([]byte{b}, times)) != `"`+strings.Repeat(part, times)+`"` {
			t.Errorf("Quote of %d bytes %d is another text", times, b)
		}
	}
	lookAtLength('a', `a`)
	lookAtLength(0xff, `\xff`)
}
