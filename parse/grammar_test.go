package parse_test

import (
	"math/rand"
	"slices"
	"strconv"
	"strings"
	"testing"

	"cartouche/api"
	"cartouche/lex"
	"cartouche/parse"
)

// The chapter's grammar once more, as plain productions, and a reading by sets of items (Earley's): the word at which a set comes out empty is the first with which no form goes on.

type production struct {
	head string
	body []string
}

// Parts of a body: heads of productions; NAME, NUMBER, TEXT, END; FIRST is a name with which no form of a member's own begins; all else stands for itself.
const sharedForms = `
whole   = file END
file    =
file    = file item
item    = import TEXT ;
item    = message0
item    = enum0
type    = NAME
type    = type . NAME
first   = FIRST
first   = first . NAME
option  =
option  = [ packed = truth ]
truth   = true
truth   = false
rest    = NAME = NUMBER
field   = first rest option ;
field   = optional type rest option ;
field   = repeated type rest option ;
field   = map < NAME , type > rest ;
oneof0  = oneof NAME { ones }
ones    = one
ones    = ones one
one     = type rest ;
ranges  = range
ranges  = ranges , range
range   = NUMBER
range   = NUMBER to NUMBER
enum0   = enum NAME { symbols }
symbols =
symbols = symbols rest ;
`

// productions has messages nested up to a depth, or without a bound behind it.
func productions(depth int, bound bool) []production {
	text := sharedForms
	for level := range depth {
		own, inner := strconv.Itoa(level), strconv.Itoa(level+1)
		if level == depth-1 {
			inner = own
		}
		text += "message" + own + " = message NAME { members" + own + " }\nmembers" + own + " =\nmembers" + own + " = members" + own + " member" + own + "\n"
		for _, body := range []string{"enum0", "oneof0", "reserved ranges ;", "field"} {
			text += "member" + own + " = " + body + "\n"
		}
		if level < depth-1 || !bound {
			text += "member" + own + " = message" + inner + "\n"
		}
	}
	var l []production
	for line := range strings.Lines(strings.TrimSpace(text)) {
		words := strings.Fields(line)
		l = append(l, production{head: words[0], body: words[2:]})
	}
	return l
}

type item struct{ rule, dot, origin int }

type grammar struct {
	rules  []production
	heads  map[string][]int
	hollow map[string]bool // heads that stand for no words too
}

func newGrammar(rules []production) *grammar {
	g := &grammar{rules: rules, heads: map[string][]int{}, hollow: map[string]bool{}}
	for i, r := range rules {
		g.heads[r.head] = append(g.heads[r.head], i)
		if len(r.body) == 0 {
			g.hollow[r.head] = true
		}
	}
	return g
}

func fits(part string, w lex.Word) bool {
	switch part {
	case "NAME":
		return w.Kind == lex.Name
	case "NUMBER":
		return w.Kind == lex.Number
	case "TEXT":
		return w.Kind == lex.Text
	case "END":
		return w.Kind == lex.End
	case "FIRST":
		return w.Kind == lex.Name && !slices.Contains(beginners, w.S)
	}
	return w.S == part && (w.Kind == lex.Name || w.Kind == lex.Sign)
}

// fill adds to a set what follows from its items without a further word.
func (g *grammar) fill(sets [][]item, at int) {
	seen := map[item]bool{}
	add := func(x item) {
		if !seen[x] {
			seen[x] = true
			sets[at] = append(sets[at], x)
		}
	}
	first := sets[at]
	sets[at] = nil
	for _, x := range first {
		add(x)
	}
	for i := 0; i < len(sets[at]); i++ {
		x := sets[at][i]
		r := g.rules[x.rule]
		if x.dot == len(r.body) {
			for _, y := range sets[x.origin] {
				if b := g.rules[y.rule].body; y.dot < len(b) && b[y.dot] == r.head {
					add(item{y.rule, y.dot + 1, y.origin})
				}
			}
			continue
		}
		for _, n := range g.heads[r.body[x.dot]] {
			add(item{n, 0, at})
		}
		if g.hollow[r.body[x.dot]] {
			add(item{x.rule, x.dot + 1, x.origin})
		}
	}
}

// refused tells the first word with which nothing goes on; the number of words, if there is none.
func (g *grammar) refused(words []lex.Word) int {
	sets := [][]item{{{rule: 0}}}
	for i, w := range words {
		g.fill(sets, i)
		var next []item
		for _, x := range sets[i] {
			if b := g.rules[x.rule].body; x.dot < len(b) && fits(b[x.dot], w) && g.heads[b[x.dot]] == nil {
				next = append(next, item{x.rule, x.dot + 1, x.origin})
			}
		}
		if len(next) == 0 {
			return i
		}
		sets = append(sets, next)
	}
	return len(words)
}

type grammars struct{ bound, free *grammar }

func bothGrammars() grammars {
	return grammars{newGrammar(productions(api.MaxNest, true)), newGrammar(productions(1, false))}
}

// faultOf is the fault that the grammars tell: where the bound one alone refuses a word, the limit is what is wrong.
func (g grammars) faultOf(text string) api.Fault {
	words, fault := lex.Split(text)
	if fault.Code != api.OK {
		return fault
	}
	free, bound := g.free.refused(words), g.bound.refused(words)
	switch {
	case bound < free:
		return api.Fault{Code: api.ErrLimit, Line: words[bound].Line, Col: words[bound].Col}
	case free < len(words):
		return api.Fault{Code: api.ErrSyntax, Line: words[free].Line, Col: words[free].Col}
	}
	return api.Fault{}
}

func (g grammars) lookAt(t *testing.T, text string) api.Errno {
	t.Helper()
	f, fault := parse.Parse(text)
	if want := g.faultOf(text); fault != want {
		t.Errorf("Parse(%q): fault %v, want %v", text, fault, want)
	}
	if fault.Code != api.OK && !sameFile(f, parse.File{}) {
		t.Errorf("Parse(%q): fault %v beside %+v", text, fault, f)
	}
	return fault.Code
}

// wholes are texts that have each form at least once.
var wholes = []string{
	`import "a" ; message A { } enum E { }`,
	`message A { B x = 1 ; B . C . D y = 2 [ packed = true ] ; optional B z = 3 [ packed = false ] ; repeated B . C w = 4 ; }`,
	`message A { map < K , V . W > m = 1 ; oneof o { B x = 1 ; optional . C y = 2 ; } oneof p { message z = 3 ; } }`,
	`message A { reserved 1 ; reserved 2 to 3 , 4 , 5 to 6 ; message B { message C { } enum D { X = 1 ; Y = 2 ; } } }`,
	`enum E { A = 0 ; } enum F { message = 1 ; B = 2 ; } import "b" ; message G { to to = 1 ; }`,
	strings.Repeat("message A { ", api.MaxNest) + "enum E { A = 0 ; }" + strings.Repeat(" }", api.MaxNest),
}

// anyWords has each word that stands for itself, and one of each other kind.
func anyWords() []string {
	signs := strings.Split("{ } [ ] ( ) < > = ; , . - : ?", " ")
	return slices.Concat(signs, keywords, []string{"name", "7", "0x7", `"text"`, `"message"`, `";"`})
}

// TestP5_1EachPlace has each word at each place of each form, in the place of the word there and ahead of it; and each beginning of each text, which is refused at its End.
func TestP5_1EachPlace(t *testing.T) {
	g := bothGrammars()
	counts := map[api.Errno]int{}
	for _, whole := range wholes {
		words := strings.Fields(whole)
		if e := g.lookAt(t, whole); e != api.OK {
			t.Errorf("%s: %v", whole, e)
		}
		for i := range len(words) + 1 {
			ahead, behind := strings.Join(words[:i], " "), strings.Join(words[i:], " ")
			counts[g.lookAt(t, ahead)]++
			counts[g.lookAt(t, behind)]++
			for _, w := range anyWords() {
				counts[g.lookAt(t, ahead+" "+w)]++
				counts[g.lookAt(t, ahead+"\n"+w+" "+behind)]++
				counts[g.lookAt(t, ahead+" "+w+" "+strings.Join(words[min(i+1, len(words)):], " "))]++
			}
		}
	}
	if counts[api.OK] < 100 || counts[api.ErrSyntax] < 1000 || counts[api.ErrLimit] < 3 {
		t.Errorf("too few of a kind: %v", counts)
	}
}

// TestP5_1Chance spoils texts by chance.
func TestP5_1Chance(t *testing.T) {
	g := bothGrammars()
	chance := rand.New(rand.NewSource(51))
	others := anyWords()
	counts := map[api.Errno]int{}
	for range 3000 {
		w := newWriter(chance)
		w.file(4)
		words, _ := lex.Split(w.text.String())
		var l []string
		for _, x := range words[:min(len(words)-1, 120)] {
			l = append(l, x.S)
		}
		for range chance.Intn(3) {
			i := chance.Intn(len(l) + 1)
			switch end := min(len(l), i+chance.Intn(2)); chance.Intn(3) {
			case 0:
				l = slices.Delete(l, i, end)
			case 1:
				l = slices.Insert(l, i, others[chance.Intn(len(others))])
			default:
				l = slices.Replace(l, i, end, others[chance.Intn(len(others))])
			}
		}
		counts[g.lookAt(t, strings.Join(l, []string{" ", "\n", "/* } */"}[chance.Intn(3)]))]++
	}
	if counts[api.OK] < 300 || counts[api.ErrSyntax] < 300 {
		t.Errorf("too few of a kind: %v", counts)
	}
}

// TestP5_1ChanceDeep has braces and messages alone, so that the limit is met often.
func TestP5_1ChanceDeep(t *testing.T) {
	g := bothGrammars()
	chance := rand.New(rand.NewSource(52))
	parts := strings.Split(strings.Repeat("message A {|", 20)+strings.Repeat("}|", 9)+"enum E { }|enum E { }|oneof o { message x = 1 ; }|message", "|")
	counts := map[api.Errno]int{}
	for range 2000 {
		var l []string
		for range chance.Intn(40) {
			l = append(l, parts[chance.Intn(len(parts))])
		}
		for strings.Count(strings.Join(l, " "), "{") > strings.Count(strings.Join(l, " "), "}") && chance.Intn(30) > 0 {
			l = append(l, "}")
		}
		counts[g.lookAt(t, strings.Join(l, " "))]++
	}
	if counts[api.OK] < 20 || counts[api.ErrSyntax] < 100 || counts[api.ErrLimit] < 100 {
		t.Errorf("too few of a kind: %v", counts)
	}
}
