package parse_test

import (
	"math"
	"math/rand"
	"strings"
	"sync"
	"testing"
	"unsafe"

	"cartouche/api"
	"cartouche/parse"
)

// TestR1R2 asks for many texts, of bytes and of words by chance: none panics, and an answer is a tree or a fault with its place.
func TestR1R2(t *testing.T) {
	chance := rand.New(rand.NewSource(55))
	words := anyWords()
	for round := range 30000 {
		var b strings.Builder
		for range chance.Intn(20) {
			if round%4 == 0 {
				b.WriteByte(byte(chance.Intn(256)))
				continue
			}
			b.WriteString(words[chance.Intn(len(words))] + " ")
		}
		f, fault := parse.Parse(b.String())
		switch fault.Code {
		case api.OK:
			if fault != (api.Fault{}) {
				t.Errorf("Parse(%q): fault %v", b.String(), fault)
			}
		case api.ErrSyntax, api.ErrLimit, api.ErrRange:
			if !sameFile(f, parse.File{}) || fault.File != 0 || fault.Line < 1 || fault.Col < 1 {
				t.Errorf("Parse(%q): %+v, fault %v", b.String(), f, fault)
			}
		default:
			t.Errorf("Parse(%q): fault %v", b.String(), fault)
		}
	}
}

// TestR1Big has texts as long as they may be, of one form each.
func TestR1Big(t *testing.T) {
	for _, x := range []struct{ ahead, part, behind string }{
		{"", `import"";`, ""}, {"", "enum e{}", ""}, {"", "message m{}", ""}, {"message m{", "a b=1;", "}"}, {"message m{", "oneof o{a b=1;}", "}"},
		{"message m{oneof o{", "a b=1;", "}}"}, {"message m{reserved 1", ",1", ";}"}, {"enum e{", "a=1;", "}"}, {"message m{a", ".a", " x=1;}"}, {"message m{", "message n{}", "}"},
	} {
		count := (api.MaxText - len(x.ahead) - len(x.behind)) / len(x.part)
		f := treeOf(t, x.ahead+strings.Repeat(x.part, count)+x.behind)
		if parse.Print(f) == "" || !sameFile(parse.Bare(parse.Bare(f)), parse.Bare(f)) {
			t.Errorf("%q: printed as nothing, or not bare", x.part)
		}
		_, fault := parse.Parse(x.ahead + strings.Repeat(x.part, count))
		if x.ahead != "" && fault.Code != api.ErrSyntax {
			t.Errorf("%q without an end: fault %v", x.part, fault)
		}
	}
	_, fault := parse.Parse(strings.Repeat("message m{", api.MaxText/10))
	if fault.Code != api.ErrLimit {
		t.Errorf("messages without an end: fault %v", fault)
	}
}

func anyPlace(chance *rand.Rand) parse.Place { return at(chance.Intn(9)-4, chance.Intn(9)-4) }

func anyInt(chance *rand.Rand) int {
	return []int{-1, 0, 1, 2, 3, 4, 5, 6, math.MinInt, math.MaxInt, 100}[chance.Intn(11)]
}

func anyText(chance *rand.Rand) string {
	return []string{"", "a", " ", "\n", "\"", "\xff", "}", "message"}[chance.Intn(8)]
}

func anyDecl(chance *rand.Rand, room int) parse.Decl {
	d := parse.Decl{Enum: chance.Intn(3) == 0, Name: anyText(chance), At: anyPlace(chance)}
	for range chance.Intn(5) {
		d.Fields = append(d.Fields, parse.Field{Name: anyText(chance), Type: anyText(chance), Key: anyText(chance), Number: chance.Uint64(),
			Label: anyInt(chance), Packed: anyInt(chance), Oneof: anyInt(chance), At: anyPlace(chance), NumberAt: anyPlace(chance), TypeAt: anyPlace(chance), MarkAt: anyPlace(chance)})
	}
	for range chance.Intn(4) {
		d.Oneofs = append(d.Oneofs, parse.Oneof{Name: anyText(chance), At: anyPlace(chance)})
		d.Reserved = append(d.Reserved, parse.Range{Low: chance.Uint64(), High: chance.Uint64(), At: anyPlace(chance)})
		d.Symbols = append(d.Symbols, parse.Symbol{Name: anyText(chance), Number: chance.Uint64(), At: anyPlace(chance), NumberAt: anyPlace(chance)})
	}
	for range chance.Intn(3) {
		if room > 0 {
			d.Decls = append(d.Decls, anyDecl(chance, room-1))
		}
	}
	return d
}

// TestR1AnyTree asks Print and Bare for trees that no text tells.
func TestR1AnyTree(t *testing.T) {
	chance := rand.New(rand.NewSource(56))
	for range 3000 {
		f := parse.File{Imports: []parse.Import{{Name: anyText(chance), At: anyPlace(chance)}}, Decls: []parse.Decl{anyDecl(chance, 4)}}
		if parse.Print(f) == "" {
			t.Errorf("Print(%+v) is empty", f)
		}
		if b := parse.Bare(f); len(b.Imports) != 1 || len(b.Decls) != 1 || !sameFile(b, parse.Bare(b)) {
			t.Errorf("Bare(%+v): %+v", f, b)
		}
	}
}

// TestR1Deep has declarations far deeper than a text may have them.
func TestR1Deep(t *testing.T) {
	const deep = 60000
	d := parse.Decl{Name: "m", At: at(1, 1)}
	for range deep {
		d = parse.Decl{Name: "m", At: at(1, 1), Decls: []parse.Decl{d}}
	}
	f := parse.File{Decls: []parse.Decl{d}}
	parse.Print(f)
	l := parse.Bare(f).Decls
	count := 0
	for ; len(l) == 1; l = l[0].Decls {
		count++
		if l[0].Name != "m" || l[0].At != at(0, 0) {
			t.Fatalf("declaration %d: %v, %v", count, l[0].Name, l[0].At)
		}
	}
	if count != deep+1 {
		t.Errorf("Bare has %d declarations in one another", count)
	}
	ring := make([]parse.Decl, 2)
	ring[0] = parse.Decl{Name: "r", Decls: ring}
	parse.Print(parse.File{Decls: ring})
}

// full is a tree with something in each list, and spare room behind it.
func full() parse.File {
	p := at(3, 4)
	room := func(d parse.Decl) []parse.Decl { return append(make([]parse.Decl, 0, 4), d, d) }
	inner := parse.Decl{Name: "n", At: p, Symbols: append(make([]parse.Symbol, 0, 3), parse.Symbol{Name: "s", Number: 1, At: p, NumberAt: p})}
	d := parse.Decl{Name: "m", At: p, Decls: room(inner),
		Fields:   append(make([]parse.Field, 0, 5), parse.Field{Name: "f", Type: "t", Number: 1, Label: api.Member, At: p, NumberAt: p, TypeAt: p}, parse.Field{Name: "g", Type: "t", Key: "k", Label: api.Map, MarkAt: p}),
		Oneofs:   append(make([]parse.Oneof, 0, 3), parse.Oneof{Name: "o", At: p}),
		Reserved: append(make([]parse.Range, 0, 3), parse.Range{Low: 1, High: 2, At: p}),
	}
	return parse.File{Imports: append(make([]parse.Import, 0, 3), parse.Import{Name: "i", At: p}), Decls: room(d)}
}

// spoilFile overwrites all lists, spare room too.
func spoilFile(f parse.File) {
	for i := range f.Imports[:cap(f.Imports)] {
		f.Imports[:cap(f.Imports)][i] = parse.Import{Name: "spoilt", At: at(9, 9)}
	}
	spoilDecls(f.Decls)
}

func spoilDecls(l []parse.Decl) {
	for i, d := range l[:cap(l)] {
		spoil(d.Fields, parse.Field{Name: "spoilt"})
		spoil(d.Oneofs, parse.Oneof{Name: "spoilt"})
		spoil(d.Reserved, parse.Range{Low: 99})
		spoil(d.Symbols, parse.Symbol{Name: "spoilt"})
		spoilDecls(d.Decls)
		l[:cap(l)][i] = parse.Decl{Name: "spoilt"}
	}
}

func spoil[T any](l []T, with T) {
	for i := range l[:cap(l)] {
		l[:cap(l)][i] = with
	}
}

// withRoom is a tree whose lists reach over their spare room.
func withRoom(f parse.File) parse.File {
	out := parse.File{Imports: f.Imports[:cap(f.Imports)]}
	for _, d := range f.Decls[:cap(f.Decls)] {
		out.Decls = append(out.Decls, declWithRoom(d))
	}
	return out
}

func declWithRoom(d parse.Decl) parse.Decl {
	d.Fields, d.Oneofs = d.Fields[:cap(d.Fields)], d.Oneofs[:cap(d.Oneofs)]
	d.Reserved, d.Symbols = d.Reserved[:cap(d.Reserved)], d.Symbols[:cap(d.Symbols)]
	var l []parse.Decl
	for _, x := range d.Decls[:cap(d.Decls)] {
		l = append(l, declWithRoom(x))
	}
	d.Decls = l
	return d
}

// TestR4Arguments sees that a tree handed in stays as it is, and that the answer does not change with it.
func TestR4Arguments(t *testing.T) {
	f := full()
	printed, bare := parse.Print(f), parse.Bare(f)
	if !sameFile(withRoom(f), withRoom(full())) {
		t.Errorf("the tree changed: %+v", f)
	}
	spoilFile(f)
	if printed != parse.Print(full()) || !sameFile(bare, parse.Bare(full())) {
		t.Errorf("an answer changed with the tree")
	}
}

// TestR4AnswersAreNew spoils an answer, spare room too, and looks at the tree and at other answers.
func TestR4AnswersAreNew(t *testing.T) {
	f := full()
	other := parse.Bare(f)
	spoilFile(parse.Bare(f))
	if !sameFile(withRoom(f), withRoom(full())) || !sameFile(other, parse.Bare(full())) {
		t.Errorf("spoilt with an answer: %+v, %+v", f, other)
	}
	text := strings.Join(wholes, "\n")
	first, second := treeOf(t, text), treeOf(t, text)
	printed := parse.Print(first)
	spoilFile(first)
	if parse.Print(second) != printed || parse.Print(treeOf(t, text)) != printed {
		t.Errorf("a tree changed with another one")
	}
}

// TestR4NoListsShared spoils each list of an answer and looks at all the others.
func TestR4NoListsShared(t *testing.T) {
	for _, f := range []parse.File{treeOf(t, strings.Join(wholes, "\n")), parse.Bare(full())} {
		want := parse.Bare(f)
		for i, d := range f.Decls {
			spoilDecls([]parse.Decl{d})
			for j := i + 1; j < len(f.Decls); j++ {
				if !sameDecl(parse.Bare(parse.File{Decls: f.Decls[j : j+1]}).Decls[0], want.Decls[j]) {
					t.Errorf("declaration %d changed with %d", j, i)
				}
			}
		}
	}
}

// within tells whether a text stands in the memory of another one.
func within(s, whole string) bool {
	low, here := uintptr(unsafe.Pointer(unsafe.StringData(whole))), uintptr(unsafe.Pointer(unsafe.StringData(s)))
	return s != "" && here >= low && here < low+uintptr(len(whole))
}

// TestR4NothingOfTheText sees that no name stands in the memory of the text.
func TestR4NothingOfTheText(t *testing.T) {
	text := strings.Clone(`import "abc"; message Mmm { Ttt.Uuu fff = 1; map<Kkk, Vvv> ggg = 2; oneof ooo { Ttt hhh = 3; } enum Eee { Sss = 0; } }`)
	f := treeOf(t, text)
	d := f.Decls[0]
	l := []string{f.Imports[0].Name, d.Name, d.Oneofs[0].Name, d.Decls[0].Name, d.Decls[0].Symbols[0].Name}
	for _, x := range d.Fields {
		l = append(l, x.Name, x.Type, x.Key)
	}
	for _, s := range l {
		if within(s, text) {
			t.Errorf("%s shares memory with the text", s)
		}
	}
}

// TestR5Many asks from many goroutines at a time, good texts and wrong ones.
func TestR5Many(t *testing.T) {
	texts := append([]string{"", "foo", "message A {", nested(api.MaxNest+1, ""), "#"}, wholes...)
	var want []parse.File
	var faults []api.Fault
	for _, text := range texts {
		f, fault := parse.Parse(text)
		want, faults = append(want, f), append(faults, fault)
	}
	var group sync.WaitGroup
	for worker := range 8 {
		group.Go(func() {
			for step := range 300 {
				i := (worker + step) % len(texts)
				f, fault := parse.Parse(texts[i])
				if fault != faults[i] || !sameFile(f, want[i]) || parse.Print(f) != parse.Print(want[i]) || !sameFile(parse.Bare(f), parse.Bare(want[i])) {
					t.Errorf("Parse(%q): %+v, fault %v", texts[i], f, fault)
				}
			}
		})
	}
	group.Wait()
}
