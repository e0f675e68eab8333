package lex_test

import (
	"math/rand"
	"slices"
	"strings"
	"sync"
	"testing"
	"unsafe"

	"cartouche/api"
	"cartouche/lex"
)

// TestR1R2 asks for many byte strings: none panics, and an answer is either words up to an End or a fault with its place.
func TestR1R2(t *testing.T) {
	chance := rand.New(rand.NewSource(6))
	for range 20000 {
		b := make([]byte, chance.Intn(30))
		for i := range b {
			b[i] = byte(chance.Intn(256))
			if chance.Intn(2) == 0 {
				b[i] = "\"\\/*\n0x a;"[chance.Intn(10)]
			}
		}
		l, f := lex.Split(string(b))
		switch f.Code {
		case api.OK:
			if f != (api.Fault{}) || len(l) == 0 || l[len(l)-1].Kind != lex.End {
				t.Errorf("Split(%q): %v, fault %v", b, l, f)
			}
		case api.ErrSyntax, api.ErrRange:
			if len(l) > 0 || f.File != 0 || f.Line < 1 || f.Col < 1 {
				t.Errorf("Split(%q): %v, fault %v", b, l, f)
			}
		default:
			t.Errorf("Split(%q): fault %v", b, f)
		}
	}
}

// TestR1Cut asks for every beginning of a text that has every form.
func TestR1Cut(t *testing.T) {
	l := forms()
	text := "/* a */ b_1 = 0x1F; // c\n \"d\\\"\\x41\\\\\" 12 /*/ * /\n*/{}[]()<>=;,.-:? 18446744073709551615 \"e\""
	for size := range len(text) + 1 {
		lookAtBoth(t, l, text[:size])
		lookAtBoth(t, l, text[size:])
	}
}

// TestR2EmptyFields looks at the fields that have no meaning for a word of its kind.
func TestR2EmptyFields(t *testing.T) {
	l, f := lex.Split(`a 1 "b" ; "" 0`)
	if f != (api.Fault{}) {
		t.Fatalf("fault %v", f)
	}
	for _, w := range l {
		if w.Kind != lex.Number && w.N != 0 || w.Kind != lex.Text && len(w.B) > 0 || w.Kind == lex.End && w.S != "" {
			t.Errorf("word %v has what its kind has not", w)
		}
	}
}

// TestR4AnswersAreNew spoils an answer, spare room too, and looks at another one and at the other words' bytes.
func TestR4AnswersAreNew(t *testing.T) {
	const text = `a "bc" "bc" "d\x41" ; 0x1F`
	first, _ := lex.Split(text)
	other, _ := lex.Split(text)
	for i, w := range first {
		room := w.B[:cap(w.B)]
		for at := range room {
			room[at] ^= 0xff
		}
		for _, later := range first[i+1:] {
			if later.S == `"bc"` && string(later.B) != "bc" {
				t.Errorf("a word's bytes changed with another one's")
			}
		}
	}
	clear(first[:cap(first)])
	again, _ := lex.Split(text)
	for _, l := range [][]lex.Word{other, again} {
		if len(l) != 7 || string(l[1].B) != "bc" || string(l[2].B) != "bc" || string(l[3].B) != "dA" || l[5].N != 31 || l[6].Kind != lex.End {
			t.Errorf("an answer changed with another one: %v", l)
		}
	}
}

// TestR4NothingOfTheText sees that no word's bytes stand in the memory of the text.
func TestR4NothingOfTheText(t *testing.T) {
	text := strings.Repeat(`a_1 "bc" 0x1F ; `, 50)
	low := uintptr(unsafe.Pointer(unsafe.StringData(text)))
	l, _ := lex.Split(text)
	for _, w := range l {
		at := uintptr(unsafe.Pointer(unsafe.StringData(w.S)))
		if w.S != "" && at >= low && at < low+uintptr(len(text)) {
			t.Fatalf("word %v shares memory with the text", w)
		}
	}
}

// TestR5Many asks from many goroutines at a time, after good texts and wrong ones.
func TestR5Many(t *testing.T) {
	texts := []string{"a = 1;", "#", `"a\n" // x`, "18446744073709551616", "", "/*", "x\n\n  1_"}
	patterns := forms()
	var group sync.WaitGroup
	for worker := range 8 {
		group.Go(func() {
			for step := range 500 {
				text := texts[(worker+step)%len(texts)]
				l, f := lex.Split(text)
				want, fault := otherSplit(patterns, text)
				if f != fault || !slices.EqualFunc(l, want, sameWord) {
					t.Errorf("Split(%q): %v, fault %v", text, l, f)
				}
			}
		})
	}
	group.Wait()
}
