package lex_test

import (
	"bytes"
	"math/big"
	"math/rand"
	"regexp"
	"slices"
	"strings"
	"testing"

	"cartouche/api"
	"cartouche/lex"
	"cartouche/quote"
)

// forms is another reading of the chapter's words, by patterns. The kind 0 is that of blanks and comments.
func forms() []form {
	return []form{
		{0, regexp.MustCompile(`^(?:[ \t\r\n]|//[^\n]*|/\*(?s:.*?)\*/)`)},
		{lex.Name, regexp.MustCompile(`^[A-Za-z_][A-Za-z0-9_]*`)},
		{lex.Number, regexp.MustCompile(`^[0-9][A-Za-z0-9_]*`)},
		{lex.Text, regexp.MustCompile(`^"(?s:[^"\\]|\\.)*"`)},
		{lex.Sign, regexp.MustCompile(`^[{}\[\]()<>=;,.\-:?]`)},
	}
}

type form struct {
	kind    int
	pattern *regexp.Regexp
}

// placeAt counts lines and columns anew from the text's beginning.
func placeAt(text string, at int) (line, col int) {
	ahead := text[:at]
	return 1 + strings.Count(ahead, "\n"), at - strings.LastIndex(ahead, "\n")
}

// value fills in what a word of that kind says.
func value(w lex.Word) (lex.Word, api.Errno) {
	switch w.Kind {
	case lex.Number:
		if !regexp.MustCompile(`^(?:[0-9]+|0x[0-9a-fA-F]+)$`).MatchString(w.S) {
			return w, api.ErrSyntax
		}
		digits, base := w.S, 10
		if rest, ok := strings.CutPrefix(w.S, "0x"); ok {
			digits, base = rest, 16
		}
		n, _ := new(big.Int).SetString(digits, base)
		if !n.IsUint64() {
			return w, api.ErrRange
		}
		w.N = n.Uint64()
	case lex.Text:
		b, e := quote.Unquote(w.S)
		if e != api.OK {
			return w, api.ErrSyntax
		}
		w.B = b
	}
	return w, api.OK
}

// match tells the word (or blank, or comment) that stands at a place.
func match(l []form, text string, at int) (w lex.Word, ok bool) {
	w.Line, w.Col = placeAt(text, at)
	for _, f := range l {
		if s := f.pattern.FindString(text[at:]); s != "" {
			w.Kind, w.S = f.kind, s
			return w, true
		}
	}
	return w, false
}

func otherSplit(l []form, text string) ([]lex.Word, api.Fault) {
	var out []lex.Word
	for at := 0; at < len(text); {
		w, ok := match(l, text, at)
		e := api.ErrSyntax
		if ok {
			w, e = value(w)
		}
		if e != api.OK {
			return nil, api.Fault{Code: e, Line: w.Line, Col: w.Col}
		}
		if w.Kind != 0 {
			out = append(out, w)
		}
		at += len(w.S)
	}
	line, col := placeAt(text, len(text))
	return append(out, end(line, col)), api.Fault{}
}

// lookAtBoth holds Split against the other reading, and tells whether the text is good.
func lookAtBoth(t *testing.T, l []form, text string) bool {
	t.Helper()
	words, fault := otherSplit(l, text)
	if fault.Code != api.OK {
		lookAtFault(t, text, fault.Code, fault.Line, fault.Col)
		return false
	}
	lookAtWords(t, text, words...)
	return true
}

// TestP4_1FewBytes asks for all texts of up to four of the bytes that mean something to a reader.
func TestP4_1FewBytes(t *testing.T) {
	l, letters := forms(), "\"\\/*\n0x1g_; \xff"
	texts := []string{""}
	for range 4 {
		var longer []string
		for _, s := range texts {
			lookAtBoth(t, l, s)
			for at := range len(letters) {
				longer = append(longer, s+letters[at:at+1])
			}
		}
		texts = longer
	}
	for _, s := range texts {
		lookAtBoth(t, l, s)
	}
}

// pieces are texts that a chance text is laid from: good and wrong words, blanks and comments.
func pieces() []string {
	return []string{
		" ", "\t", "\r", "\n", "\r\n", "//", "// x \" /*\n", "/**/", "/*\n*/", "/*/ */", "/* // */",
		"a", "_", "Zz_9", "x", "0", "12", "007", "0x", "0x1F", "0xab", "18446744073709551615", "18446744073709551616", "0xffffffffffffffff", "0x10000000000000000",
		`""`, `"a"`, `"\""`, `"\\"`, `"\x41"`, `"/*"`, `"\q"`, `"`, `\`, "#", "/", "*", "\x00", "\xc3\xa4",
		"{", "}", "[", "]", "(", ")", "<", ">", "=", ";", ",", ".", "-", ":", "?",
	}
}

func TestP4_1Chance(t *testing.T) {
	chance, l, from, good := rand.New(rand.NewSource(4)), forms(), pieces(), 0
	for range 20000 {
		var text strings.Builder
		for range chance.Intn(9) {
			text.WriteString(from[chance.Intn(len(from))])
		}
		if lookAtBoth(t, l, text.String()) {
			good++
		}
	}
	if good < 2000 {
		t.Errorf("only %d of the texts are good", good)
	}
}

func TestP4_2FieldsOfWords(t *testing.T) {
	l, f := lex.Split("name 0x0A \"a\\x42\"\n = ")
	if f != (api.Fault{}) || len(l) != 5 {
		t.Fatalf("Split: %d words, fault %v", len(l), f)
	}
	for i, want := range []lex.Word{
		{Kind: 1, S: "name", Line: 1, Col: 1},
		{Kind: 2, S: "0x0A", N: 10, Line: 1, Col: 6},
		{Kind: 3, S: `"a\x42"`, B: []byte("aB"), Line: 1, Col: 11},
		{Kind: 4, S: "=", Line: 2, Col: 2},
		{Kind: 5, Line: 2, Col: 4},
	} {
		if !sameWord(l[i], want) {
			t.Errorf("word %d: %v, want %v", i, l[i], want)
		}
	}
}

// TestP4_2BytesAtPlaces finds each word's bytes at its place in the text.
func TestP4_2BytesAtPlaces(t *testing.T) {
	text := "message M { // one\r\n\tint32 x = 0x1; /* two\n\n */ string s=\"a\\\"b\";\n}\n\n"
	l, f := lex.Split(text)
	if f != (api.Fault{}) || len(l) != 15 {
		t.Fatalf("Split: %d words, fault %v", len(l), f)
	}
	lines := strings.SplitAfter(text, "\n")
	for _, w := range l {
		if rest := lines[w.Line-1][w.Col-1:]; !strings.HasPrefix(rest, w.S) {
			t.Errorf("word %q at %d, %d: there stands %q", w.S, w.Line, w.Col, rest)
		}
	}
	if last := l[len(l)-1]; !sameWord(last, end(7, 1)) {
		t.Errorf("the last word: %v", last)
	}
}

func sameButPlace(a, b lex.Word) bool {
	a.Line, a.Col = b.Line, b.Col
	return sameWord(a, b)
}

// lookAtRejoined splits the words' bytes again, with what is given between them.
func lookAtRejoined(t *testing.T, words []lex.Word, between string) {
	t.Helper()
	var parts []string
	for _, w := range words {
		parts = append(parts, w.S)
	}
	text := strings.Join(parts, between)
	l, f := lex.Split(text)
	if f != (api.Fault{}) || !slices.EqualFunc(l, words, sameButPlace) {
		t.Errorf("Split(%.80q): %.300v, fault %v, want but for places %.300v", text, l, f, words)
	}
}

// separators are blanks and comments that may stand between any two words.
func separators() []string {
	return []string{" ", "\t", "\r", "\n", " \t\r\n ", "/**/", "/* \" 1a # */", "//\n", "// \"x /* \n", "/*\n*/\n//\n", " /*/*/ "}
}

func TestP4_3WordsAgain(t *testing.T) {
	for _, text := range []string{"", "a", "a_1 = 0x1F;", "a.b.c", "-1", "1.2", `"a""b"`, `x"\""0`, "/*x*/a//y\nb", "{}[]()<>=;,.-:?", "message M { map<string, int32> m = 1; }"} {
		words, f := lex.Split(text)
		if f != (api.Fault{}) {
			t.Fatalf("Split(%q): fault %v", text, f)
		}
		for _, between := range separators() {
			lookAtRejoined(t, words, between)
		}
	}
}

func TestP4_3Chance(t *testing.T) {
	chance, from, good := rand.New(rand.NewSource(5)), pieces(), 0
	for range 10000 {
		var text strings.Builder
		for range chance.Intn(12) {
			text.WriteString(from[chance.Intn(len(from))])
		}
		words, f := lex.Split(text.String())
		if f.Code != api.OK {
			continue
		}
		good++
		for _, between := range separators() {
			lookAtRejoined(t, words, between)
		}
	}
	if good < 500 {
		t.Errorf("only %d of the texts are good", good)
	}
}

// TestP4_3AroundWords lays blanks and comments ahead of a text and behind it too.
func TestP4_3AroundWords(t *testing.T) {
	const text = `a=0x1F;"\n"`
	words, _ := lex.Split(text)
	for _, ahead := range separators() {
		for _, behind := range separators() {
			l, f := lex.Split(ahead + text + behind)
			if f != (api.Fault{}) || !slices.EqualFunc(l, words, sameButPlace) {
				t.Errorf("Split(%q): %v, fault %v", ahead+text+behind, l, f)
			}
			line, col := placeAt(ahead+text+behind, len(ahead+text+behind))
			if last := l[len(l)-1]; last.Line != line || last.Col != col {
				t.Errorf("End at %d, %d, want %d, %d", last.Line, last.Col, line, col)
			}
		}
	}
}

// TestP4_3ManyWords goes as far as the words and the blanks between fit in MaxText.
func TestP4_3ManyWords(t *testing.T) {
	words, f := lex.Split(strings.Repeat(";", api.MaxText/2))
	if f != (api.Fault{}) || len(words) != api.MaxText/2+1 {
		t.Fatalf("Split: %d words, fault %v", len(words), f)
	}
	lookAtRejoined(t, words, " ")
	quotes, _ := lex.Split(string(bytes.Repeat([]byte(`""`), api.MaxText/3)))
	lookAtRejoined(t, quotes, "\n")
}
