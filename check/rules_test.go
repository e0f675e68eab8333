package check_test

import (
	"fmt"
	"slices"
	"strings"
	"sync"
	"testing"
	"unsafe"

	"cartouche/api"
	"cartouche/check"
	"cartouche/samples"
)

// TestR1R2 has bundles of words and of bytes by chance: none panics; an answer is a table or a fault.
func TestR1R2(t *testing.T) {
	m := newMaker(68)
	words := strings.Split(`message|enum|oneof|reserved|optional|repeated|map|import|{|}|[|]|<|>|=|;|,|.|0|1|536870912|"a"|"b"|A|B|int32|packed|true|to|`, "|")
	for round := range 20000 {
		l := files(make([]string, m.chance.Intn(4))...)
		for i := range l {
			for range m.chance.Intn(12) {
				if round%4 == 0 {
					l[i].Text += string([]byte{byte(m.chance.Intn(256))})
					continue
				}
				l[i].Text += words[m.chance.Intn(len(words))] + " "
			}
		}
		table, fault := check.Compile(l)
		if fault.Code == api.OK && fault != (api.Fault{}) || fault.Code != api.OK && len(table.Types) > 0 {
			t.Errorf("Compile(%q): %+v, fault %v", l, table, fault)
		}
		lookAgain(t, l)
	}
}

// TestR1Big has bundles as great as they may be, of one form each: each ends soon.
func TestR1Big(t *testing.T) {
	long := strings.Repeat("n", api.MaxText/2)
	for _, x := range []struct {
		ahead, part, behind string
		e                   api.Errno
	}{
		{"", `import"a";`, "", api.ErrDup}, {"", "enum e{}", "", api.ErrDup}, {"", "enum e#{A=0;}", "", api.ErrLimit}, {"message m{", "a b=1;", "}", api.ErrName}, {"message m{", "m b#=1#;", "}", api.ErrLimit},
		{"message m{", "oneof o#{m b#=1#;}", "}", api.ErrLimit}, {"message m{", "oneof o{a b=1;}", "}", api.ErrDup}, {"message m{reserved 1", ",1", ";}", api.ErrNumber}, {"message m{reserved 1", ",2#", ";}", api.ErrLimit},
		{"enum e{", "a=1;", "}", api.ErrSymbol}, {"enum e{z=0;", "a#=1#;", "}", api.ErrLimit}, {"message m{a", ".a", " x=1;}", api.ErrName}, {"message m{", "message n{}", "}", api.ErrDup},
		{"message " + long + "{", "enum e#{}", "}", api.ErrLimit}, {"message m{message " + long + "{} message n{", "n b#=1#;", "}}", api.ErrLimit}, {"message " + long + "{message n{", "n b=1;", "}}", api.ErrDup},
	} {
		var b strings.Builder
		b.WriteString(x.ahead)
		for i := 0; ; i++ {
			part := strings.ReplaceAll(x.part, "#", fmt.Sprint(i))
			if b.Len()+len(part)+len(x.behind) > api.MaxText {
				break
			}
			b.WriteString(part)
		}
		table, fault := check.Compile(files(b.String() + x.behind))
		if fault.Code != x.e || len(table.Types) > 0 {
			t.Errorf("%.60s .. %s: fault %v, want %v", x.ahead, x.part, fault, x.e)
		}
	}
}

// whole is a bundle that has something in each list of its table.
func whole() []api.Source {
	text := `import "b"; message Mmm { reserved 70, 80 to 90; oneof ooo { Bbb.Ccc fff = 9; string ggg = 2; } oneof ppp { bool hhh = 3; } map<string, Mmm> iii = 4; repeated Eee jjj = 5; enum Eee { Sss = 0; Ttt = 5; } enum Fff { Sss = 0; Uuu = 1; } }`
	return files(strings.Clone(text), strings.Clone("message Bbb { message Ccc { int32 xxx = 1; oneof qqq { Bbb yyy = 2; } reserved 5; } }"))
}

func spoil[T any](l []T, with T) {
	for i := range l[:cap(l)] {
		l[:cap(l)][i] = with
	}
}

// spoilTable overwrites all lists, spare room too.
func spoilTable(t api.Table) {
	for _, x := range t.Types {
		spoil(x.Fields, api.FieldType{Name: "spoilt"})
		spoil(x.Oneofs, "spoilt")
		spoil(x.Symbols, api.Symbol{Name: "spoilt"})
		spoil(x.Reserved, api.Range{Low: 99})
	}
	spoil(t.Types, api.Type{Name: "spoilt"})
}

func TestR4AnswersAreNew(t *testing.T) {
	l := whole()
	first, second := tableOf(t, l), tableOf(t, l)
	spoilTable(first)
	if want := readAgain(whole()).table(); !samples.SameTable(second, want) || !samples.SameTable(tableOf(t, l), want) || !slices.Equal(l, whole()) {
		t.Errorf("spoilt with an answer: %+v, %+v", second, l)
	}
}

// room is the memory of a list, spare room too.
func room[T any](l []T) [2]uintptr {
	var x T
	at := uintptr(unsafe.Pointer(unsafe.SliceData(l)))
	return [2]uintptr{at, at + uintptr(cap(l))*unsafe.Sizeof(x)}
}

func TestR4NoListsShared(t *testing.T) {
	m := newMaker(69)
	for range 300 {
		l := m.next()
		table, fault := check.Compile(l)
		if fault.Code != api.OK {
			continue
		}
		all := [][2]uintptr{room(table.Types), room(l)}
		for _, x := range table.Types {
			all = append(all, room(x.Fields), room(x.Oneofs), room(x.Symbols), room(x.Reserved))
		}
		all = slices.DeleteFunc(all, func(r [2]uintptr) bool { return r[0] == r[1] })
		for i, r := range all {
			for _, o := range all[:i] {
				if r[0] < o[1] && o[0] < r[1] {
					t.Errorf("Compile(%q): two lists share memory", l)
				}
			}
		}
	}
}

// TestR4Arguments sees that what is handed in stays as it is, spare room too, and that answers do not change with it.
func TestR4Arguments(t *testing.T) {
	l := append(make([]api.Source, 0, 5), whole()...)
	spare := l[:5]
	spare[4] = api.Source{Name: "spare", Text: "room"}
	table := tableOf(t, l)
	if !slices.Equal(l, whole()) || spare[2] != (api.Source{}) || spare[4] != (api.Source{Name: "spare", Text: "room"}) {
		t.Errorf("the sources changed: %q", spare)
	}
	spoil(l, api.Source{Name: "spoilt"})
	if !samples.SameTable(table, readAgain(whole()).table()) {
		t.Errorf("the table changed with the sources: %+v", table)
	}
	names := append(make([]string, 0, 4), "T", "A.T")
	names[:4][3] = "spare"
	if got, ok := check.Resolve(names, "A.B", "T"); got != "A.T" || !ok || !slices.Equal(names[:4], []string{"T", "A.T", "", "spare"}) {
		t.Errorf("Resolve: %q, %v, names %q", got, ok, names[:4])
	}
}

// within tells whether a text stands in the memory of another one.
func within(s, whole string) bool {
	low, here := uintptr(unsafe.Pointer(unsafe.StringData(whole))), uintptr(unsafe.Pointer(unsafe.StringData(s)))
	return s != "" && here >= low && here < low+uintptr(len(whole))
}

// TestR4NothingOfTheTexts sees that no name of an answer stands in the memory of what was handed in.
func TestR4NothingOfTheTexts(t *testing.T) {
	l := whole()
	var names []string
	for _, x := range tableOf(t, l).Types {
		names = append(append(names, x.Name), x.Oneofs...)
		for _, f := range x.Fields {
			names = append(names, f.Name)
		}
		for _, s := range x.Symbols {
			names = append(names, s.Name)
		}
	}
	for _, s := range names {
		if within(s, l[0].Text) || within(s, l[1].Text) {
			t.Errorf("%s shares memory with a text", s)
		}
	}
	given := []string{strings.Clone("T"), strings.Clone("A.T")}
	scope, written := strings.Clone("A"), strings.Clone("T")
	for _, s := range []string{scope, ""} {
		got, _ := check.Resolve(given, s, written)
		for _, x := range append(given, scope, written) {
			if within(got, x) {
				t.Errorf("%s shares memory with what was handed in", got)
			}
		}
	}
}

// TestR5Many asks from many goroutines at a time, bundles that are right and wrong ones.
func TestR5Many(t *testing.T) {
	m := newMaker(70)
	var bundles [][]api.Source
	var want []api.Table
	var faults []api.Fault
	for range 60 {
		l := m.next()
		table, fault := check.Compile(l)
		bundles, want, faults = append(bundles, l), append(want, table), append(faults, fault)
	}
	var group sync.WaitGroup
	for worker := range 8 {
		group.Go(func() {
			for step := range 300 {
				i := (7*worker + step) % len(bundles)
				if table, fault := check.Compile(bundles[i]); fault != faults[i] || !samples.SameTable(table, want[i]) {
					t.Errorf("Compile(%q): %+v, fault %v", bundles[i], table, fault)
				}
			}
		})
	}
	group.Wait()
}
