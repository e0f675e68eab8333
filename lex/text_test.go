package lex_test

import (
	"fmt"
	"strings"
	"testing"

	"cartouche/api"
	"cartouche/quote"
)

func lookAtText(t *testing.T, s, b string) {
	t.Helper()
	lookAtWords(t, s, quoted(s, b, 1, 1), end(1, 1+len(s)))
	lookAtWords(t, "\na"+s+"b", name("a", 2, 1), quoted(s, b, 2, 2), name("b", 2, 2+len(s)), end(2, 3+len(s)))
}

func TestP4_1Texts(t *testing.T) {
	lookAtText(t, `""`, "")
	lookAtText(t, `"a"`, "a")
	lookAtText(t, `" a b "`, " a b ")
	lookAtText(t, `"\""`, `"`)
	lookAtText(t, `"\\"`, `\`)
	lookAtText(t, `"\\\""`, `\"`)
	lookAtText(t, `"\\\\"`, `\\`)
	lookAtText(t, `"a\"b\"c"`, `a"b"c`)
	lookAtText(t, `"\n\t\r\x00\xFf"`, "\n\t\r\x00\xff")
	lookAtText(t, `"\x22"`, `"`)
	lookAtText(t, `"// /* */ ' { 1a #"`, "// /* */ ' { 1a #")
	lookAtText(t, "\"\x00\x01\t\r\x7f\x80\xff\"", "\x00\x01\t\r\x7f\x80\xff")
	lookAtText(t, "\"\u00e4\u20ac\U0001f600\"", "\u00e4\u20ac\U0001f600")
	lookAtWords(t, `"a""b"`, quoted(`"a"`, "a", 1, 1), quoted(`"b"`, "b", 1, 4), end(1, 7))
	lookAtWords(t, `"\\""\""`, quoted(`"\\"`, `\`, 1, 1), quoted(`"\""`, `"`, 1, 5), end(1, 9))
	lookAtWords(t, `"""" ""`, quoted(`""`, "", 1, 1), quoted(`""`, "", 1, 3), quoted(`""`, "", 1, 6), end(1, 8))
	for n := range 256 {
		lookAtText(t, fmt.Sprintf(`"\x%02x"`, n), string([]byte{byte(n)}))
		lookAtText(t, fmt.Sprintf(`"z\x%02Xz"`, n), "z"+string([]byte{byte(n)})+"z")
	}
}

func TestP4_1WrongTexts(t *testing.T) {
	for _, s := range []string{
		`"`, `"a`, `"\`, `"a\`, `"\"`, `"a\"`, `"\\\"`, `"\\\`, `"""`, `"a" "`, `"a"b"`, "\"\x00", "\"a\u00e4",
		"\"a\nb\"", "\"\n\"", "\"a\n", "\"\n", "\"\\\n\"", "\"a\\\n", "\"\r\n\"", "\"a\nb\" c \"d\"",
		`"\q"`, `"\a"`, `"\0"`, `"\'"`, `"\ "`, `"\N"`, `"\X41"`, `"\u0041"`, `"\x"`, `"\x4"`, `"\x4g"`, `"\xg4"`, `"\x\x41"`, `"\x4\"`, "\"\\\x00\"", "\"\\\xff\"",
	} {
		col := 1
		if strings.HasPrefix(s, `""`) || strings.HasPrefix(s, `"a"`) {
			col = strings.LastIndex(s, `"`) + 1 // a good text stands ahead of the wrong one
		}
		lookAtFault(t, s, api.ErrSyntax, 1, col)
		lookAtFault(t, "a\n ;"+s, api.ErrSyntax, 2, 2+col)
	}
	lookAtFault(t, `"a" "\q" "`, api.ErrSyntax, 1, 5)
	lookAtFault(t, `'a"`, api.ErrSyntax, 1, 1)
}

// TestP4_1BackslashTakes lays every byte behind a backslash, and sees which quote ends the text.
func TestP4_1BackslashTakes(t *testing.T) {
	for n := range 256 {
		s := string([]byte{'"', 'a', '\\', byte(n), 'z', '"'})
		b, e := quote.Unquote(s)
		if e == api.OK {
			lookAtText(t, s, string(b))
			continue
		}
		lookAtFault(t, s, api.ErrSyntax, 1, 1)
	}
}

// TestP4_2BytesOfTexts holds B against what quote tells of S.
func TestP4_2BytesOfTexts(t *testing.T) {
	all := make([]byte, 256)
	for n := range all {
		all[n] = byte(n)
	}
	for _, b := range [][]byte{nil, all, []byte(`\"\\"`), []byte("\n\n"), []byte(strings.Repeat("\\", 99))} {
		lookAtText(t, quote.Quote(b), string(b))
	}
}
