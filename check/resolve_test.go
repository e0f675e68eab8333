package check_test

import (
	"math/rand"
	"slices"
	"strings"
	"testing"

	"cartouche/check"
)

// resolveByList goes by the document's words: the names that may be meant, one behind the other.
func resolveByList(names []string, scope, written string) (string, bool) {
	var wanted []string
	for scope != "" {
		wanted = append(wanted, scope+"."+written)
		scope = scope[:max(0, strings.LastIndex(scope, "."))]
	}
	for _, s := range append(wanted, written) {
		if slices.Contains(names, s) {
			return s, true
		}
	}
	return "", false
}

func lookAtResolve(t *testing.T, names []string, scope, written, want string, ok bool) {
	t.Helper()
	if got, gotOK := check.Resolve(names, scope, written); got != want || gotOK != ok {
		t.Errorf("Resolve(%q, %q, %q) = %q, %v; want %q, %v", names, scope, written, got, gotOK, want, ok)
	}
}

func TestP6_3(t *testing.T) {
	all := []string{"T", "A.T", "A.B.T", "A.B.C.T", "C.T", "B.T", "X.A.T", "A.B.C.D.T"}
	lookAtResolve(t, all, "A.B.C", "T", "A.B.C.T", true)
	lookAtResolve(t, all, "A.B", "T", "A.B.T", true)
	lookAtResolve(t, all, "A", "T", "A.T", true)
	lookAtResolve(t, all, "", "T", "T", true)
	lookAtResolve(t, all, "D", "T", "T", true)
	lookAtResolve(t, all, "A.X.B", "T", "A.T", true)
	lookAtResolve(t, all, "A.BB.C", "T", "A.T", true)
	lookAtResolve(t, all, "AA", "T", "T", true)
	lookAtResolve(t, []string{"B.T", "AT", "A.B.TT", "A.BT"}, "A.B", "T", "", false)
	lookAtResolve(t, []string{"T", "A.T"}, "A.B.C", "T", "A.T", true)
	lookAtResolve(t, []string{"A.T", "T", "A.T", "T"}, "A.B.C", "T", "A.T", true)
	lookAtResolve(t, []string{"A.C.T", "C.T"}, "A.B", "C.T", "A.C.T", true)
	lookAtResolve(t, []string{"A.C", "C.T"}, "A.B", "C.T", "C.T", true) // the names as wholes
	lookAtResolve(t, []string{"A.A", "A"}, "A", "A", "A.A", true)
	lookAtResolve(t, []string{"A"}, "A", "A", "A", true)
	lookAtResolve(t, []string{"A.A.A"}, "A.A", "A", "A.A.A", true)
	lookAtResolve(t, []string{"A.A.A"}, "A", "A.A", "A.A.A", true)
	lookAtResolve(t, []string{"A.A.A"}, "", "A.A", "", false)
	lookAtResolve(t, []string{"A", "A.B"}, "A.B", "B", "A.B", true)
}

func TestP6_3Empty(t *testing.T) {
	lookAtResolve(t, nil, "", "", "", false)
	lookAtResolve(t, nil, "A", "T", "", false)
	lookAtResolve(t, []string{""}, "A", "T", "", false)
	lookAtResolve(t, []string{""}, "", "", "", true)
	lookAtResolve(t, []string{""}, "A.B", "", "", true)
	lookAtResolve(t, []string{"", "A."}, "A.B", "", "A.", true)
	lookAtResolve(t, []string{"A"}, "", "", "", false)
	lookAtResolve(t, []string{"T"}, "", "T", "T", true)
	lookAtResolve(t, []string{"A.T"}, "", "T", "", false)
	lookAtResolve(t, []string{".T"}, "", "T", "", false)
}

// TestP6_3Chance has names, scopes and types of a few signs, points at any place among them.
func TestP6_3Chance(t *testing.T) {
	chance := rand.New(rand.NewSource(61))
	word := func(room int) string {
		b := make([]byte, chance.Intn(room))
		for i := range b {
			b[i] = "aab.."[chance.Intn(5)]
		}
		return string(b)
	}
	full := func(room int) string {
		l := make([]string, chance.Intn(room))
		for i := range l {
			l[i] = []string{"a", "b", "ab"}[chance.Intn(3)]
		}
		return strings.Join(l, ".")
	}
	counts := map[bool]int{}
	for round := range 100000 {
		make1 := word
		if round%2 == 0 {
			make1 = full
		}
		var names []string
		for range chance.Intn(7) {
			names = append(names, make1(5))
		}
		scope, written := make1(5), make1(4)
		want, ok := resolveByList(names, scope, written)
		lookAtResolve(t, names, scope, written, want, ok)
		counts[ok]++
	}
	if counts[true] < 10000 || counts[false] < 10000 {
		t.Errorf("too few of a kind: %v", counts)
	}
}

// TestP6_3Long has a scope of many names, and many names beside it: the call ends soon.
func TestP6_3Long(t *testing.T) {
	scope := strings.Repeat("a.", 1<<20) + "a"
	names := make([]string, 1<<12)
	for i := range names {
		names[i] = scope[:2*i] + "t"
	}
	lookAtResolve(t, names, scope, "t", names[len(names)-1], true)
	lookAtResolve(t, names, scope, "u", "", false)
	lookAtResolve(t, []string{"t"}, scope, "t", "t", true)
	lookAtResolve(t, []string{scope + ".t", "t"}, scope, "t", scope+".t", true)
}
