package check_test

import (
	"fmt"
	"slices"
	"strings"
	"testing"

	"cartouche/api"
	"cartouche/check"
	"cartouche/samples"
)

// files are sources named a, b, c and so on.
func files(texts ...string) []api.Source {
	var out []api.Source
	for i, s := range texts {
		out = append(out, api.Source{Name: string(rune('a' + i)), Text: s})
	}
	return out
}

// marked takes the sign @ out of texts: it stands where the fault is wanted. No word has it.
func marked(e api.Errno, texts ...string) ([]api.Source, api.Fault) {
	want := api.Fault{Code: e}
	for i, s := range texts {
		ahead, _, found := strings.Cut(s, "@")
		if found {
			want.File, want.Line, want.Col = i+1, 1+strings.Count(ahead, "\n"), len(ahead)-strings.LastIndex(ahead, "\n")
		}
		texts[i] = strings.Replace(s, "@", "", 1)
	}
	return files(texts...), want
}

func lookAtFault(t *testing.T, sources []api.Source, want api.Fault) {
	t.Helper()
	table, fault := check.Compile(sources)
	if fault != want {
		t.Errorf("Compile(%q): fault %v, want %v", sources, fault, want)
	}
	if want.Code != api.OK && len(table.Types) != 0 {
		t.Errorf("Compile(%q): fault %v beside %v", sources, fault, table)
	}
}

// lookAtMark has the texts refused where the sign @ stands.
func lookAtMark(t *testing.T, e api.Errno, texts ...string) {
	t.Helper()
	sources, want := marked(e, slices.Clone(texts)...)
	lookAtFault(t, sources, want)
}

// lookAtMembers has a message refused where the sign @ stands, with what ought to be seen in it beside it.
func lookAtMembers(t *testing.T, e api.Errno, members string) {
	t.Helper()
	lookAtMark(t, e, "enum E { Z = 0; }\nmessage M {\n"+members+"\n}")
}

func tableOf(t *testing.T, sources []api.Source) api.Table {
	t.Helper()
	table, fault := check.Compile(sources)
	if fault != (api.Fault{}) {
		t.Fatalf("Compile(%q): fault %v", sources, fault)
	}
	return table
}

func lookAtTaken(t *testing.T, texts ...string) {
	t.Helper()
	tableOf(t, files(texts...))
}

func lookAtTable(t *testing.T, sources []api.Source, want ...api.Type) {
	t.Helper()
	if got := tableOf(t, sources); !samples.SameTable(got, api.Table{Types: want}) {
		t.Errorf("Compile(%q):\n%+v, want\n%+v", sources, got.Types, want)
	}
}

// lines tells so many lines, each made of its number from 0 on.
func lines(count int, format string) string {
	var b strings.Builder
	for i := range count {
		b.WriteString(strings.ReplaceAll(format, "#", fmt.Sprint(i)))
		b.WriteByte('\n')
	}
	return b.String()
}
