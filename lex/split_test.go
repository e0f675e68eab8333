package lex_test

import (
	"bytes"
	"slices"
	"strings"
	"testing"

	"cartouche/api"
	"cartouche/lex"
)

func name(s string, line, col int) lex.Word {
	return lex.Word{Kind: lex.Name, S: s, Line: line, Col: col}
}

func number(s string, n uint64, line, col int) lex.Word {
	return lex.Word{Kind: lex.Number, S: s, N: n, Line: line, Col: col}
}

func quoted(s, b string, line, col int) lex.Word {
	return lex.Word{Kind: lex.Text, S: s, B: []byte(b), Line: line, Col: col}
}

func sign(s string, line, col int) lex.Word {
	return lex.Word{Kind: lex.Sign, S: s, Line: line, Col: col}
}

func end(line, col int) lex.Word {
	return lex.Word{Kind: lex.End, Line: line, Col: col}
}

func sameWord(a, b lex.Word) bool {
	return a.Kind == b.Kind && a.S == b.S && a.N == b.N && bytes.Equal(a.B, b.B) && a.Line == b.Line && a.Col == b.Col
}

func lookAtWords(t *testing.T, text string, want ...lex.Word) {
	t.Helper()
	l, f := lex.Split(text)
	if f != (api.Fault{}) || !slices.EqualFunc(l, want, sameWord) {
		t.Errorf("Split(%.60q): %.300v, fault %v, want %.300v", text, l, f, want)
	}
}

func lookAtFault(t *testing.T, text string, code api.Errno, line, col int) {
	t.Helper()
	l, f := lex.Split(text)
	if f != (api.Fault{Code: code, Line: line, Col: col}) || len(l) > 0 {
		t.Errorf("Split(%.60q): %d words, fault %v, want error %d at %d, %d", text, len(l), f, code, line, col)
	}
}

func TestP4_1Examples(t *testing.T) {
	lookAtWords(t, "a_1 = 0x1F;", name("a_1", 1, 1), sign("=", 1, 5), number("0x1F", 31, 1, 7), sign(";", 1, 11), end(1, 12))
	lookAtWords(t, "\"a\\n\" // x\n", quoted(`"a\n"`, "a\n", 1, 1), end(2, 1))
	lookAtWords(t, "", end(1, 1))
	for _, text := range []string{"/* x", "1a", "0x", "#", `"a`} {
		lookAtFault(t, text, api.ErrSyntax, 1, 1)
	}
	lookAtFault(t, "18446744073709551616", api.ErrRange, 1, 1)
	lookAtFault(t, `/**/ "\q"`, api.ErrSyntax, 1, 6)
}

// TestP4_1KindsOfWords holds the kinds' numbers against those of the chapter.
func TestP4_1KindsOfWords(t *testing.T) {
	kinds := []int{lex.Name, lex.Number, lex.Text, lex.Sign, lex.End}
	if !slices.Equal(kinds, []int{1, 2, 3, 4, 5}) {
		t.Errorf("kinds of words: %v", kinds)
	}
}

// TestP4_1TooBig asks at MaxText bytes and at one more, of good texts and of wrong ones.
func TestP4_1TooBig(t *testing.T) {
	const most = api.MaxText
	fill := func(head, part, tail string) string {
		return head + strings.Repeat(part, most-len(head)-len(tail)) + tail
	}
	lookAtWords(t, fill("", " ", ""), end(1, most+1))
	lookAtWords(t, fill("", "\n", ""), end(most+1, 1))
	lookAtWords(t, fill("//", "x", ""), end(1, most+1))
	lookAtWords(t, fill("/*", "x", "*/"), end(1, most+1))
	lookAtWords(t, fill("", " ", "x"), name("x", 1, most), end(1, most+1))
	long := fill("", "a", "")
	lookAtWords(t, long, name(long, 1, 1), end(1, most+1))
	zeros := fill("", "0", "7")
	lookAtWords(t, zeros, number(zeros, 7, 1, 1), end(1, most+1))
	text := fill(`"`, "x", `"`)
	lookAtWords(t, text, quoted(text, text[1:most-1], 1, 1), end(1, most+1))
	lookAtFault(t, fill("", " ", "#"), api.ErrSyntax, 1, most)
	lookAtFault(t, fill("/*", " ", ""), api.ErrSyntax, 1, 1)
	lookAtFault(t, fill("", "9", ""), api.ErrRange, 1, 1)
	if l, f := lex.Split(fill("", ";", "")); f != (api.Fault{}) || len(l) != most+1 || !sameWord(l[most-1], sign(";", 1, most)) {
		t.Errorf("Split of MaxText signs: %d words, fault %v", len(l), f)
	}
	for _, head := range []string{" ", "a", "#", `"`, "/*", "1a", "\n", "0x"} {
		lookAtFault(t, head+fill("", " ", ""), api.ErrTooBig, 0, 0)
		lookAtFault(t, fill("", " ", "")+head, api.ErrTooBig, 0, 0)
		lookAtFault(t, strings.Repeat(head, 3*most), api.ErrTooBig, 0, 0)
	}
}

// TestP4_1EveryByte asks for every byte by itself, and between two names.
func TestP4_1EveryByte(t *testing.T) {
	for n := range 256 {
		text := string([]byte{byte(n)})
		between := "a " + text + " b"
		switch c := byte(n); {
		case strings.Contains(" \t\r", text):
			lookAtWords(t, text, end(1, 2))
			lookAtWords(t, between, name("a", 1, 1), name("b", 1, 5), end(1, 6))
		case c == '\n':
			lookAtWords(t, text, end(2, 1))
			lookAtWords(t, between, name("a", 1, 1), name("b", 2, 2), end(2, 3))
		case c == '_', c >= 'a' && c <= 'z', c >= 'A' && c <= 'Z':
			lookAtWords(t, text, name(text, 1, 1), end(1, 2))
			lookAtWords(t, between, name("a", 1, 1), name(text, 1, 3), name("b", 1, 5), end(1, 6))
		case c >= '0' && c <= '9':
			lookAtWords(t, text, number(text, uint64(c-'0'), 1, 1), end(1, 2))
			lookAtWords(t, between, name("a", 1, 1), number(text, uint64(c-'0'), 1, 3), name("b", 1, 5), end(1, 6))
		case strings.Contains("{}[]()<>=;,.-:?", text):
			lookAtWords(t, text, sign(text, 1, 1), end(1, 2))
			lookAtWords(t, between, name("a", 1, 1), sign(text, 1, 3), name("b", 1, 5), end(1, 6))
		default:
			lookAtFault(t, text, api.ErrSyntax, 1, 1)
			lookAtFault(t, between, api.ErrSyntax, 1, 3)
			lookAtFault(t, "a"+text, api.ErrSyntax, 1, 2)
		}
	}
}

// TestP4_1NoWord asks for characters of several bytes: the first of these is told.
func TestP4_1NoWord(t *testing.T) {
	for _, text := range []string{"\x00", "\x7f", "\x80", "\xff", "\u00e4", "\u00a0", "\u2028", "\ufeff", "\v", "\f", "!", "#", "'x'", "`", "+1", "*", "*/", "&", "|", "\\", "\\\"", "~", "@", "$a", "%", "^"} {
		lookAtFault(t, text, api.ErrSyntax, 1, 1)
		lookAtFault(t, "\n ab"+text, api.ErrSyntax, 2, 4)
		lookAtFault(t, "7"+text, api.ErrSyntax, 1, 2)
		lookAtFault(t, ";"+text, api.ErrSyntax, 1, 2)
	}
}

func TestP4_1Comments(t *testing.T) {
	for _, text := range []string{"//", "// x", "///", "//*", "// */ # \" \x00\xff", "//\r", "/**/", "/***/", "/****/", "/*/*/", "/*//*/", "/* * / */", "/* # \" 1a \x00\xff */", "/* // */", "/*\t\r*/"} {
		lookAtWords(t, text, end(1, 1+len(text)))
		lookAtWords(t, "a"+text, name("a", 1, 1), end(1, 2+len(text)))
		lookAtWords(t, text+"\nb", name("b", 2, 1), end(2, 2))
	}
	lookAtWords(t, "a//b\nc", name("a", 1, 1), name("c", 2, 1), end(2, 2))
	lookAtWords(t, "//a\n//b\n\nc", name("c", 4, 1), end(4, 2))
	lookAtWords(t, "// /*\nc", name("c", 2, 1), end(2, 2))
	lookAtWords(t, "//\rc\nd", name("d", 2, 1), end(2, 2))
	lookAtWords(t, "/* x\n * y\n */z", name("z", 3, 4), end(3, 5))
	lookAtWords(t, "/* // */z", name("z", 1, 9), end(1, 10))
	lookAtWords(t, "/*/*/z", name("z", 1, 6), end(1, 7))
	lookAtWords(t, "a/**/b/**/1/**/;", name("a", 1, 1), name("b", 1, 6), number("1", 1, 1, 11), sign(";", 1, 16), end(1, 17))
	lookAtWords(t, "1//x", number("1", 1, 1, 1), end(1, 5))
	lookAtWords(t, `"//" "/*"`, quoted(`"//"`, "//", 1, 1), quoted(`"/*"`, "/*", 1, 6), end(1, 10))
}

func TestP4_1WrongComments(t *testing.T) {
	for _, text := range []string{"/*", "/*/", "/* x", "/* *", "/* * /", "/**", "/***", "/*\n", "/* \n * \n /", "/* \"*", "/", "/ ", "/ /", "/ *", "/a", "/1", "/\n/", "/\"", "/;"} {
		lookAtFault(t, text, api.ErrSyntax, 1, 1)
		lookAtFault(t, "a "+text, api.ErrSyntax, 1, 3)
		lookAtFault(t, "\n\n\t"+text, api.ErrSyntax, 3, 2)
		lookAtFault(t, "/* */"+text, api.ErrSyntax, 1, 6)
	}
	lookAtFault(t, "/* /* */ */", api.ErrSyntax, 1, 10) // no comment within another one
	lookAtFault(t, "/**/*/", api.ErrSyntax, 1, 5)
	lookAtFault(t, "///*\n/*", api.ErrSyntax, 2, 1)
}

func TestP4_1Names(t *testing.T) {
	for _, s := range []string{"a", "Z", "_", "__", "_1", "_a", "a_", "a1", "x0x", "aB9_z", "e1", "true", "message", "AZaz09_"} {
		lookAtWords(t, s, name(s, 1, 1), end(1, 1+len(s)))
		lookAtWords(t, ";"+s+";", sign(";", 1, 1), name(s, 1, 2), sign(";", 1, 2+len(s)), end(1, 3+len(s)))
	}
	lookAtWords(t, "a.b-c", name("a", 1, 1), sign(".", 1, 2), name("b", 1, 3), sign("-", 1, 4), name("c", 1, 5), end(1, 6))
	lookAtWords(t, `a"b"c`, name("a", 1, 1), quoted(`"b"`, "b", 1, 2), name("c", 1, 5), end(1, 6))
	lookAtFault(t, "a\u00e4", api.ErrSyntax, 1, 2)
	lookAtFault(t, "_\x80", api.ErrSyntax, 1, 2)
	lookAtFault(t, "a\x00b", api.ErrSyntax, 1, 2)
	lookAtFault(t, "a$", api.ErrSyntax, 1, 2)
}

func TestP4_1Signs(t *testing.T) {
	want := []lex.Word{}
	const all = "{}[]()<>=;,.-:?"
	for at := range len(all) {
		want = append(want, sign(all[at:at+1], 1, at+1))
	}
	lookAtWords(t, all, append(want, end(1, 16))...)
	lookAtWords(t, "==", sign("=", 1, 1), sign("=", 1, 2), end(1, 3))
	lookAtWords(t, "-1", sign("-", 1, 1), number("1", 1, 1, 2), end(1, 3))
	lookAtWords(t, "1.5", number("1", 1, 1, 1), sign(".", 1, 2), number("5", 5, 1, 3), end(1, 4))
	lookAtWords(t, "->", sign("-", 1, 1), sign(">", 1, 2), end(1, 3))
}

// TestP4_1FirstFault lays wrong words one behind the other: the leftmost is told, whatever comes behind.
func TestP4_1FirstFault(t *testing.T) {
	wrong := []struct {
		text string
		code api.Errno
	}{
		{"#", api.ErrSyntax}, {"\x00", api.ErrSyntax}, {"1a", api.ErrSyntax}, {"0x", api.ErrSyntax}, {`"\q"`, api.ErrSyntax},
		{"18446744073709551616", api.ErrRange}, {"0x10000000000000000", api.ErrRange}, {"99999999999999999999z", api.ErrSyntax}, {"/", api.ErrSyntax},
	}
	for _, a := range wrong {
		for _, b := range wrong {
			lookAtFault(t, "x "+a.text+" \n "+b.text, a.code, 1, 3)
			lookAtFault(t, "/*"+b.text+"*/\n"+a.text+"\n"+b.text, a.code, 2, 1)
		}
		for _, b := range []string{`"`, "/*", "\"\n\"", `"\`} {
			lookAtFault(t, a.text+" "+b, a.code, 1, 1)
			lookAtFault(t, "\n\n  "+a.text+"\n"+b, a.code, 3, 3)
		}
	}
	lookAtFault(t, "a #\n/*", api.ErrSyntax, 1, 3)
	lookAtFault(t, "\"a\n # 18446744073709551616", api.ErrSyntax, 1, 1)
	lookAtFault(t, "/* # 18446744073709551616", api.ErrSyntax, 1, 1)
	lookAtFault(t, "18446744073709551616#", api.ErrRange, 1, 1)
	lookAtFault(t, "18446744073709551616\x80", api.ErrRange, 1, 1)
	lookAtFault(t, `18446744073709551616"`, api.ErrRange, 1, 1)
}

func TestP4_1Places(t *testing.T) {
	lookAtWords(t, "a\nb", name("a", 1, 1), name("b", 2, 1), end(2, 2))
	lookAtWords(t, "a\rb", name("a", 1, 1), name("b", 1, 3), end(1, 4))
	lookAtWords(t, "a\r\nb\r\n", name("a", 1, 1), name("b", 2, 1), end(3, 1))
	lookAtWords(t, "a\n\rb", name("a", 1, 1), name("b", 2, 2), end(2, 3))
	lookAtWords(t, "\ta\t\tb", name("a", 1, 2), name("b", 1, 5), end(1, 6))
	lookAtWords(t, "a\tb\r\n c", name("a", 1, 1), name("b", 1, 3), name("c", 2, 2), end(2, 3))
	lookAtWords(t, "\n\n\n", end(4, 1))
	lookAtWords(t, "\n \n  x", name("x", 3, 3), end(3, 4))
	lookAtWords(t, "x \n", name("x", 1, 1), end(2, 1))
	lookAtWords(t, "x \n ", name("x", 1, 1), end(2, 2))
	lookAtWords(t, "x // y", name("x", 1, 1), end(1, 7))
	lookAtWords(t, "x /*\n\n*/", name("x", 1, 1), end(3, 3))
	lookAtWords(t, "x /*\n\n*/ // z\n", name("x", 1, 1), end(4, 1))
	lookAtWords(t, "/*\u00e4*/x", name("x", 1, 7), end(1, 8)) // columns are bytes
	lookAtWords(t, "\"\u00e4\"x", quoted("\"\u00e4\"", "\u00e4", 1, 1), name("x", 1, 5), end(1, 6))
	lookAtFault(t, "x\n\n  1_", api.ErrSyntax, 3, 3)
	lookAtFault(t, "/*\n*/ \"a\n\"", api.ErrSyntax, 2, 4)
	lookAtFault(t, "//\n/*\n\n", api.ErrSyntax, 2, 1)
}
