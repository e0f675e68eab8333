package samples_test

import (
	"slices"
	"testing"

	"cartouche/api"
	"cartouche/check"
	"cartouche/model"
	"cartouche/plan"
	"cartouche/samples"
	"cartouche/table"
)

func TestTables(t *testing.T) {
	for i, x := range []api.Table{samples.Small(), samples.Wide(), samples.Full()} {
		if !table.Good(x) {
			t.Errorf("table %d is not good", i)
		}
	}
	for _, x := range samples.WrongTables() {
		if table.Good(x.Table) {
			t.Errorf("%s: good", x.What)
		}
	}
	m := samples.New(1)
	for range 2000 {
		if x := m.Table(); !table.Good(x) || x.Types[0].Enum {
			t.Fatalf("not good: %+v", x)
		}
		if x := m.Rich(); !table.Good(x) {
			t.Fatalf("not good: %+v", x)
		}
	}
}

// TestFiles sees that what is compiled of a table that was written as a file is the table.
func TestFiles(t *testing.T) {
	m := samples.New(21)
	for range 1000 {
		x := m.SomeTable()
		file := samples.File(x)
		if y, fault := check.Compile([]api.Source{{Name: "a", Text: file}}); fault.Code != api.OK || !samples.SameTable(x, y) {
			t.Fatalf("%+v\nby %s\nis %+v, fault %v", x, file, y, fault)
		}
	}
}

// TestBentTables sees that some are good, and others not.
func TestBentTables(t *testing.T) {
	m := samples.New(5)
	var bent, wild int
	for range 3000 {
		if table.Good(m.BentTable()) {
			bent++
		}
		if table.Good(m.WildTable()) {
			wild++
		}
	}
	if bent < 1000 || bent > 2500 || wild > 2500 {
		t.Errorf("%d and %d are good", bent, wild)
	}
}

// TestCopiesOfTables sees that what is told as a copy is the same, and has memory of its own.
func TestCopiesOfTables(t *testing.T) {
	m := samples.New(6)
	for range 1000 {
		x := samples.Pick(m, m.BentTable(), m.WildTable())
		whole := samples.WhollyTable(x)
		for i, y := range []api.Table{samples.CopyTable(x), samples.EmptiedTable(x), samples.RoomyTable(x)} {
			if !samples.SameTable(x, y) || samples.SharesTable(y, x) || samples.SharesTable(y) {
				t.Errorf("copy %d of %+v: %+v", i, x, y)
			}
		}
		if samples.WhollyTable(x) != whole || samples.WhollyTable(samples.RoomyTable(x)) == whole {
			t.Errorf("%s: spare room is not told", whole)
		}
		if len(x.Types) > 0 && (!samples.SharesTable(x, x) || samples.SameTable(x, samples.Table(x.Types[1:]...))) {
			t.Errorf("%+v is not the same as it", x)
		}
	}
	whole := samples.Wide()
	y := whole.Types[1]
	if y.Name = "V"; samples.SameType(y, whole.Types[1]) || !samples.SharesTable(samples.Table(y, y)) || samples.SharesTable(samples.Table(y)) {
		t.Error("fields that two types share are not seen")
	}
	if y.Fields = y.Fields[:3:3]; !samples.SharesTable(samples.Table(y), whole) {
		t.Error("fields that two tables share are not seen")
	}
}

// TestPrograms sees that what is told as valid is, that each operation comes, and that some of those that are changed are valid, and others not.
func TestPrograms(t *testing.T) {
	m := samples.New(7)
	counts := map[int]int{}
	var bent, wild int
	for range 3000 {
		p := m.Program()
		if !plan.Valid(p) || len(p.Blocks[0].Dec) == 0 {
			t.Fatalf("not valid: %+v", p)
		}
		for _, b := range p.Blocks {
			for _, s := range slices.Concat(b.Dec, b.Enc) {
				counts[s.Op]++
			}
		}
		if q := m.Knotted(); !plan.Valid(q) || len(q.Blocks[0].Dec) == 0 {
			t.Fatalf("not valid: %+v", q)
		}
		if plan.Valid(m.BentProgram(p)) {
			bent++
		}
		if plan.Valid(m.WildProgram()) {
			wild++
		}
	}
	for op := plan.Tag; op <= plan.PutVal; op++ {
		if counts[op] < 500 {
			t.Errorf("the operation %d comes %d times", op, counts[op])
		}
	}
	if bent < 300 || bent > 2000 || wild > 1000 {
		t.Errorf("%d and %d are valid", bent, wild)
	}
}

// TestWritten reads steps and rows as the document writes them.
func TestWritten(t *testing.T) {
	got := samples.Block("Tag; Case 8 2; Pair 3 String Message 1;Go 0", "; Has 1 1 Int32; End;", "8 2; 4294967293 3")
	want := api.Block{
		Dec:  []api.Ins{{Op: plan.Tag}, {Op: plan.Case, A: 8, B: 2}, {Op: plan.Pair, A: 3, B: api.String, C: api.Message, D: 1}, {Op: plan.Go}},
		Enc:  []api.Ins{{Op: plan.Has, A: 1, B: 1, C: api.Int32}, {Op: plan.End}},
		Rows: []api.Line{{Tag: 8, To: 2}, {Tag: 4294967293, To: 3}},
	}
	if samples.ToldBlock(got) != samples.ToldBlock(want) || !plan.Valid(samples.EveryStep()) {
		t.Errorf("%+v, want %+v", got, want)
	}
	for i, name := range samples.Operations() {
		if l := samples.Steps(name); len(l) != 1 || l[0].Op != plan.Tag+i {
			t.Errorf("%s: %v", name, l)
		}
	}
	if kinds := samples.Kinds(); len(kinds) != api.Message || kinds[api.Bytes-1] != "Bytes" {
		t.Errorf("kinds %v", kinds)
	}
}

// TestCopiesOfPrograms sees that what is told as a copy is the same, and has memory of its own.
func TestCopiesOfPrograms(t *testing.T) {
	m := samples.New(8)
	for range 1000 {
		p := samples.Pick(m, m.Program(), m.WildProgram())
		whole := samples.WhollyProgram(p)
		for i, q := range []api.Program{samples.CopyProgram(p), samples.EmptiedProgram(p), samples.RoomyProgram(p)} {
			if !samples.SameProgram(p, q) || samples.SharesProgram(q, p) || samples.SharesProgram(q) {
				t.Errorf("copy %d of %+v: %+v", i, p, q)
			}
		}
		if bent := m.BentProgram(p); samples.SharesProgram(bent, p) || samples.WhollyProgram(p) != whole || samples.WhollyProgram(samples.RoomyProgram(p)) == whole {
			t.Errorf("%s: it is changed, or spare room is not told", whole)
		}
		if len(p.Blocks) > 0 && (!samples.SharesProgram(p, p) || samples.SameProgram(p, api.Program{Blocks: p.Blocks[1:]})) {
			t.Errorf("%+v is not the same as it", p)
		}
	}
	steps := []api.Ins{{Op: plan.Tag}, {Op: plan.Go}}
	shared := api.Block{Dec: steps[:1], Enc: steps[1:]} // by spare room
	if !samples.SharesProgram(api.Program{Blocks: []api.Block{shared}}) || samples.ToldBlock(shared) == samples.ToldBlock(api.Block{Dec: steps}) {
		t.Error("steps that two lists share are not seen")
	}
}

// TestSingle sees that there is a good table for each kind and label that can be, and that values are what they are said to be.
func TestSingle(t *testing.T) {
	for kind := api.Bool; kind <= api.Message; kind++ {
		good, bad := samples.Values(kind)
		for label := api.Plain; label <= api.Map; label++ {
			key := 0
			if label == api.Map {
				key = api.Bool
			}
			x := samples.Single(kind, label, key)
			if table.Good(x) != samples.CanBe(kind, label) {
				t.Errorf("kind %d, label %d: good %v", kind, label, table.Good(x))
			}
		}
		x := samples.Single(kind, api.Optional, 0)
		for i, v := range append(slices.Clone(good), bad...) {
			if ok, e := model.Typed(x, samples.Around, samples.Msg(samples.Field(samples.Number, v))); e != api.OK || ok != (i < len(good)) {
				t.Errorf("kind %d, value %d: typed %v, error %d", kind, i, ok, e)
			}
		}
	}
	singles := samples.Singles()
	for i, x := range singles {
		if !table.Good(x) || i > 0 && samples.SameTable(x, singles[i-1]) {
			t.Errorf("table %d is not good, or stands there twice", i)
		}
	}
	if count := 17*4 + 14 - 1 + 17*12; len(singles) != count { // Packed of 14 kinds, not Plain of Message, each key
		t.Errorf("%d tables, want %d", len(singles), count)
	}
	for _, kind := range samples.KeyKinds() {
		x := samples.Single(api.Bool, api.Map, kind)
		keys := samples.Rising(kind)
		f := api.Field{Number: samples.Number, Keys: keys, Vals: make([]api.Val, len(keys))}
		if ok, e := model.Typed(x, samples.Around, samples.Msg(f)); !ok || e != api.OK {
			t.Errorf("keys of kind %d do not rise", kind)
		}
	}
}

func TestMessages(t *testing.T) {
	m := samples.New(2)
	for range 1000 {
		x := m.Table()
		a := m.Message(x, 0, 3)
		if ok, e := model.Typed(x, 0, a); !ok || e != api.OK || model.Depth(a) > 4 {
			t.Errorf("%s: typed %v, error %d", samples.Told(a), ok, e)
		}
	}
	if a, b := samples.New(3).Message(samples.Wide(), 1, 3), samples.New(3).Message(samples.Wide(), 1, 3); samples.Told(a) != samples.Told(b) {
		t.Error("of one seed two messages")
	}
}

// TestCopies sees that what is told as a copy is the same, and has memory of its own.
func TestCopies(t *testing.T) {
	m := samples.New(4)
	for range 1000 {
		a := m.Wild(3)
		for i, b := range []api.Msg{samples.Copy(a), samples.Emptied(a), samples.WithRoom(a)} {
			if !model.Equal(a, b) || samples.Told(a) != samples.Told(b) || samples.Shares(b, a) {
				t.Errorf("copy %d of %s: %s", i, samples.Told(a), samples.Told(b))
			}
		}
		if samples.Wholly(a) == samples.Wholly(samples.WithRoom(a)) {
			t.Errorf("%s: spare room is not told", samples.Told(a))
		}
	}
}

func TestShares(t *testing.T) {
	some := []byte("abc")
	one := []api.Val{{B: some}}
	in := samples.In(samples.Msg())
	for i, row := range []struct {
		answer api.Msg
		given  []api.Msg
		want   bool
	}{
		{samples.Msg(), nil, false},
		{samples.Msg(samples.Field(1, api.Val{B: some})), nil, false},
		{samples.Msg(samples.Field(1, api.Val{B: some}, api.Val{B: some})), nil, true},
		{samples.Msg(samples.Field(1, api.Val{B: some[:1:1]}, api.Val{B: some[1:]})), nil, false},
		{samples.Msg(samples.Field(1, api.Val{B: some[:1]}, api.Val{B: some[2:]})), nil, true}, // by spare room
		{samples.Msg(api.Field{Keys: one, Vals: one}), nil, true},
		{samples.Msg(samples.Field(1, in, in)), nil, true},
		{samples.Msg(samples.Field(1, api.Val{B: some[2:]})), []api.Msg{samples.Unknown(api.Entry{B: some})}, true},
		{samples.Msg(), []api.Msg{samples.Msg(samples.Field(1, in, in))}, false},
	} {
		if samples.Shares(row.answer, row.given...) != row.want {
			t.Errorf("row %d: %v", i, !row.want)
		}
	}
}
