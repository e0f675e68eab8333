package quote_test

import (
	"bytes"
	"fmt"
	"math/rand"
	"strings"
	"testing"

	"cartouche/api"
	"cartouche/quote"
)

func lookAtUnquote(t *testing.T, s string, want ...byte) {
	t.Helper()
	if b, e := quote.Unquote(s); e != api.OK || !bytes.Equal(b, want) {
		t.Errorf("Unquote(%q): %v, error %d, want %v", s, b, e, want)
	}
}

func lookAtRefusal(t *testing.T, s string, want api.Errno) {
	t.Helper()
	if b, e := quote.Unquote(s); e != want || len(b) > 0 {
		t.Errorf("Unquote of %d bytes (%.40q): %.20v, error %d, want error %d", len(s), s, b, e, want)
	}
}

func TestP2_3Examples(t *testing.T) {
	lookAtUnquote(t, `"a\x41"`, 97, 65)
	lookAtRefusal(t, `"\q"`, api.ErrSyntax)
	lookAtRefusal(t, `a`, api.ErrSyntax)
	lookAtUnquote(t, `""`)
	lookAtUnquote(t, `"\"\\\n\t\r"`, 34, 92, 10, 9, 13)
	lookAtUnquote(t, `"\\n"`, 92, 'n')
	lookAtUnquote(t, `"\\\\x"`, 92, 92, 'x')
	lookAtUnquote(t, `"a\"b"`, 'a', '"', 'b')
}

// TestP2_3BareBytes lays every byte by itself between the marks.
func TestP2_3BareBytes(t *testing.T) {
	for n := range 256 {
		c := byte(n)
		s := string([]byte{'"', c, '"'})
		long := string([]byte{'"', 'a', c, 'b', '"'})
		switch c {
		case 34, 92, 10:
			lookAtRefusal(t, s, api.ErrSyntax)
		default:
			lookAtUnquote(t, s, c)
		}
		switch c {
		case 34, 10, 92: // a backslash and b are no part either
			lookAtRefusal(t, long, api.ErrSyntax)
		default:
			lookAtUnquote(t, long, 'a', c, 'b')
		}
	}
}

// TestP2_3Signs lays every byte behind a backslash.
func TestP2_3Signs(t *testing.T) {
	signs := map[byte]byte{'"': 34, '\\': 92, 'n': 10, 't': 9, 'r': 13}
	for n := range 256 {
		s := string([]byte{'"', 'a', '\\', byte(n), 'z', '"'})
		if c, ok := signs[byte(n)]; ok {
			lookAtUnquote(t, s, 'a', c, 'z')
			lookAtUnquote(t, string([]byte{'"', '\\', byte(n), '"'}), c)
			continue
		}
		lookAtRefusal(t, s, api.ErrSyntax)
	}
}

// TestP2_3Digits lays every two bytes behind \x.
func TestP2_3Digits(t *testing.T) {
	const small, great = "0123456789abcdef", "0123456789ABCDEF"
	value := func(c int) int {
		return max(strings.IndexByte(small, byte(c)), strings.IndexByte(great, byte(c)))
	}
	for high := range 256 {
		for low := range 256 {
			s := string([]byte{'"', '\\', 'x', byte(high), byte(low), 'z', '"'})
			if h, l := value(high), value(low); h >= 0 && l >= 0 {
				lookAtUnquote(t, s, byte(16*h+l), 'z')
				continue
			}
			lookAtRefusal(t, s, api.ErrSyntax)
		}
	}
	lookAtUnquote(t, `"\xaF\xFa\x00\xff\xFF"`, 0xaf, 0xfa, 0, 0xff, 0xff)
	lookAtUnquote(t, `"\x0a\x22\x5c"`, 10, 34, 92)
	lookAtUnquote(t, `"\x414"`, 0x41, '4')
}

func TestP2_3WrongForms(t *testing.T) {
	for _, s := range []string{
		``, ` `, `a`, `abc`, `"`, `"a`, `a"`, `'a'`, "`a`",
		` ""`, `"" `, "\"\"\n", "\n\"\"", `"a"b`, `a"b"`,
		`"""`, `""""`, `"a"b"`, `"a" "b"`, `"a""b"`,
		`"\"`, `"\\\"`, `"a\"`, `\"a"`, `\""`,
		`"\x"`, `"\x4"`, `"\x4`, `"\x41`, `"\x`, `"\`, `"\x 41"`, `"\x4 1"`, `"\x+1"`, `"\x-1"`, `"\x4g"`, `"\xg4"`, `"\x4\"`, `"\x\x41"`,
		`"\X41"`, `"\N"`, `"\T"`, `"\R"`, `"\a"`, `"\b"`, `"\f"`, `"\v"`, `"\0"`, `"\101"`, `"\u0041"`, `"\U00000041"`, `"\'"`, `"\/"`, `"\ "`,
		"\"\n\"", "\"a\nb\"", "\"\\\n\"", "\"a\n", "\"\r\n\"",
	} {
		lookAtRefusal(t, s, api.ErrSyntax)
	}
}

// TestP2_3MaxText asks at the limit and one past it, of good forms and of wrong ones.
func TestP2_3MaxText(t *testing.T) {
	quoted := func(s string) string { return `"` + s + `"` }
	full := strings.Repeat("a", api.MaxText-2)
	if b, e := quote.Unquote(quoted(full)); e != api.OK || string(b) != full {
		t.Errorf("Unquote of MaxText bytes: %d bytes, error %d", len(b), e)
	}
	signs := strings.Repeat(`\x41`, (api.MaxText-2)/4) + `\n`
	if b, e := quote.Unquote(quoted(signs)); len(quoted(signs)) != api.MaxText || e != api.OK || string(b) != strings.Repeat("A", (api.MaxText-2)/4)+"\n" {
		t.Errorf("Unquote of MaxText bytes of signs: %d bytes, error %d", len(b), e)
	}
	lookAtRefusal(t, quoted(full+"a"), api.ErrTooBig)
	lookAtRefusal(t, quoted(full+"\n"), api.ErrTooBig)
	lookAtRefusal(t, strings.Repeat("a", api.MaxText+1), api.ErrTooBig)
	lookAtRefusal(t, strings.Repeat("a", api.MaxText), api.ErrSyntax)
	lookAtRefusal(t, `"a`+full, api.ErrSyntax)
	lookAtRefusal(t, quoted(full[1:]+"\n"), api.ErrSyntax)
	lookAtRefusal(t, strings.Repeat(quoted(full), 20), api.ErrTooBig)
}

// parts are all that P2.3 lets stand between the marks, each with its byte.
func parts() map[string]byte {
	l := map[string]byte{`\"`: 34, `\\`: 92, `\n`: 10, `\t`: 9, `\r`: 13}
	for n := range 256 {
		l[fmt.Sprintf(`\x%02x`, n)] = byte(n)
		l[fmt.Sprintf(`\x%02X`, n)] = byte(n)
		if n != 34 && n != 92 && n != 10 {
			l[string([]byte{byte(n)})] = byte(n)
		}
	}
	return l
}

// cut is another reading of P2.3: it looks each part up. (No part begins with another one.)
func cut(l map[string]byte, s string) (out []byte, ok bool) {
next:
	for s != "" {
		for size := range min(len(s), 4) {
			if c, ok := l[s[:size+1]]; ok {
				out, s = append(out, c), s[size+1:]
				continue next
			}
		}
		return nil, false
	}
	return out, true
}

// TestP2_3Chance holds many short texts against the other reading.
func TestP2_3Chance(t *testing.T) {
	chance := rand.New(rand.NewSource(2))
	const letters = "\"\"\"\\\\\\nxx41fg\n\tz\xff"
	l, good := parts(), 0
	for range 3000 {
		inner := make([]byte, chance.Intn(7))
		for i := range inner {
			inner[i] = letters[chance.Intn(len(letters))]
		}
		s := `"` + string(inner) + `"`
		if want, ok := cut(l, string(inner)); ok {
			good++
			lookAtUnquote(t, s, want...)
			continue
		}
		lookAtRefusal(t, s, api.ErrSyntax)
	}
	if good < 100 {
		t.Errorf("only %d of the texts are good", good)
	}
}
