package driver_test

import (
	"strings"
	"testing"

	"cartouche/api"
	"cartouche/samples"
)

// TestExamples has the chapter's.
func TestExamples(t *testing.T) {
	lookAtRows(t, lookAtEm,
		row{`decode M 0805 / interp M 1a020801 / decode M 08`, `x : 5 / m { x : 1 } / error 3`},
		row{`encode M "x:5 l[1 2]" / merge M 0805 0806 / steps M 0805`, `080512020102 / 0806 / 6 5`},
		row{`keep / file "a" "message M { int32 x = 1; repeated uint32 l = 2; M m = 3; string s = 4; }" / compile / diff / through M 0801220161`, `ok / ok / types 1 / additive 1 / 0801220161`},
	)
	lookAtRows(t, lookAt,
		row{`compile / file "a" "message" / compile / types / foo`, `types 0 / ok / error 11 1 1 8 /  / error 11`},
		row{`pack / unpack - / types / decode M 00`, `error 20 / types 0 /  / error 20`},
	)
}

// TestT9Examples has the ten examples of the whole.
func TestT9Examples(t *testing.T) {
	lookAtRows(t, lookAtEm,
		row{`decode M 0805 / decode M 120201021003`, `x : 5 / l [ 1 2 3 ]`},
		row{`decode M 08 / decode M 0b / decode M 2001`, `error 3 / error 6 / ? 4 - 0 : 1`},
		row{`encode M "x:5 l[1 2]" / encode M "x:0" / encode M "y:1"`, `080512020102 / - / error 12`},
		row{`merge M 0805 0806 / merge M 1a020801 1a021001`, `0806 / 1a050801120101`},
		row{`settle M 0800 / steps M 0805`, `- / 6 5`},
		row{`keep / file "a" "message M { int32 x = 1; repeated uint32 l = 2; M m = 3; string s = 4; }" / compile / diff / through M 0801220161`, `ok / ok / types 1 / additive 1 / 0801220161`},
	)
	lookAtRows(t, lookAt,
		row{`file "a" "enum E { A = 0; } message M { E e = 1; }" / compile / decode M 0800 / decode M 0801`, `ok / types 2 / e : A / error 9`},
		row{`file "a" "message M { oneof o { int32 a = 1; string b = 2; } }" / compile / decode M 0801120178`, `ok / types 1 / b : "x"`},
		row{`file "a" "message M { map<string, int32> m = 1; }" / compile / encode M "m<\"b\":2 \"a\":1>"`, `ok / types 1 / 0a050a016110010a050a01621002`},
		row{`file "a" "message M { int32 x = 0; }" / compile / types`, `ok / error 7 1 1 23 / error 20`},
	)
}

// TestP20_3Alike: decode and interp tell the same, in whatever script.
func TestP20_3Alike(t *testing.T) {
	m := samples.New(2031)
	counts := map[bool]int{}
	for range 500 {
		l := someLines(m)
		want := toldOf(l)
		for i, x := range l {
			if len(x.words) == 0 {
				continue
			}
			other := map[string]string{"decode": "interp", "interp": "decode"}[x.words[0]]
			if other != "" && m.Below(4) > 0 {
				l[i].line = strings.Replace(x.line, x.words[0], other, 1)
				counts[strings.HasPrefix(x.told, "error ")]++
			}
		}
		lookAtText(t, scriptOf(l), want)
	}
	if counts[true] < 300 || counts[false] < 300 {
		t.Errorf("too few: %v", counts)
	}
}

// TestP20_3Blanks: blanks ahead of words, between them and behind them, and lines that are passed over change nothing.
func TestP20_3Blanks(t *testing.T) {
	m := samples.New(2032)
	blank := func(least int) string {
		var b strings.Builder
		for range least + m.Below(3) {
			b.WriteString(samples.Pick(m, " ", " ", "\t", "\r"))
		}
		return b.String()
	}
	for range 500 {
		l := someLines(m)
		var b strings.Builder
		room := api.MaxLines - len(l)
		for _, x := range l {
			for m.Below(3) == 0 && room > 0 {
				b.WriteString(blank(0) + samples.Pick(m, "", "", "#", "# "+x.line, "##\xff\"") + "\n")
				room--
			}
			if len(x.words) == 0 && m.Below(2) == 0 {
				continue
			}
			for i, word := range x.words {
				least := 1
				if i == 0 || isClosed(x.words[i-1]) {
					least = 0
				}
				b.WriteString(blank(least) + word)
			}
			if n := len(x.words); n > 0 && !isOpen(x.words[n-1]) {
				b.WriteString(blank(0))
			}
			b.WriteString("\n")
		}
		lookAtText(t, b.String(), toldOf(l))
	}
}

// isOpen tells whether a word is a quoted one without an end: what stands behind it is a part of it.
func isOpen(word string) bool { return word[0] == '"' && !isClosed(word) }

// isClosed tells whether a word is a quoted one with its end: the next one may begin at once. Another quote behind it is a word by itself just then.
func isClosed(word string) bool {
	l := wordsOf("x " + word + `"`)
	return word[0] == '"' && len(l) == 3
}

// TestP20_3Behind: of text behind text is told what the first one tells, and then more; wherever lines end.
func TestP20_3Behind(t *testing.T) {
	m := samples.New(2033)
	for range 400 {
		l := someLines(m)
		at := m.Below(len(l) + 1)
		ahead, behind := scriptOf(l[:at]), scriptOf(l[at:])
		first, all := run(t, ahead), run(t, ahead+behind)
		rest, isFirst := strings.CutPrefix(all, first)
		if !isFirst || rest != toldOf(l[at:]) {
			t.Errorf("%s\ntells\n%s\nwith more behind it\n%s", brief(ahead), brief(first), brief(all))
		}
		// Without its last end it tells the same; what stands behind it then goes on with its line.
		if open := strings.TrimSuffix(ahead, "\n"); !strings.HasSuffix(open, "\n") {
			lookAtText(t, open, first)
			lookAtText(t, open+"\n"+strings.TrimSuffix(behind, "\n"), all)
		}
	}
}

// TestP20_3Twice: the same text tells the same, whatever was told between; one script knows nothing of another one.
func TestP20_3Twice(t *testing.T) {
	m := samples.New(2034)
	scripts, want := someScripts(m, 100)
	for range 300 {
		i := m.Below(len(scripts))
		lookAtText(t, scripts[i], want[i])
		lookAtText(t, "types\nkeep\ndiff\n", "error 20\nerror 20\nerror 20\n")
	}
}
