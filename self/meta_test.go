package self_test

import (
	"fmt"
	"testing"

	"cartouche/api"
	"cartouche/check"
	"cartouche/samples"
	"cartouche/self"
	"cartouche/table"
)

func TestP12_1Meta(t *testing.T) {
	got, want := self.Meta(), meta()
	if len(got.Types) != len(want.Types) {
		t.Fatalf("%d types: %+v", len(got.Types), got)
	}
	for i, x := range want.Types {
		own := got.Types[i]
		if own.Name != x.Name || own.Enum || len(own.Oneofs)+len(own.Symbols)+len(own.Reserved) > 0 || len(own.Fields) != len(x.Fields) {
			t.Errorf("type %d: %+v, want %+v", i, own, x)
			continue
		}
		for j, f := range x.Fields {
			if own.Fields[j] != f {
				t.Errorf("type %d, field %d: %+v, want %+v", i, j, own.Fields[j], f)
			}
		}
	}
	if !table.Good(got) {
		t.Errorf("not good: %+v", got)
	}
}

// TestP12_1Compiled has the table of tables written as a file.
func TestP12_1Compiled(t *testing.T) {
	const file = `
		message Table { repeated Type types = 1; }
		message Type { string name = 1; bool enum = 2; repeated Field fields = 3; repeated string oneofs = 4; repeated Symbol symbols = 5; repeated Range reserved = 6; }
		message Field { string name = 1; uint32 number = 2; uint32 kind = 3; uint32 ref = 4; uint32 label = 5; uint32 oneof = 6; uint32 key = 7; }
		message Symbol { string name = 1; uint32 number = 2; }
		message Range { uint32 low = 1; uint32 high = 2; }`
	want, f := check.Compile([]api.Source{{Name: "meta", Text: file}})
	if f != (api.Fault{}) || !same(self.Meta(), want) {
		t.Errorf("fault %v; %+v, want %+v", f, self.Meta(), want)
	}
}

// TestP12_1MetaIsNew spoils what Meta told: no later answer knows of it (R4).
func TestP12_1MetaIsNew(t *testing.T) {
	first, second := self.Meta(), self.Meta()
	if samples.SharesTable(first) || samples.SharesTable(second, first) {
		t.Error("two lists share memory")
	}
	for i := range first.Types {
		clear(first.Types[i].Fields[:cap(first.Types[i].Fields)])
	}
	clear(first.Types[:cap(first.Types)])
	for i, x := range []api.Table{second, self.Meta()} {
		if !same(x, meta()) {
			t.Errorf("answer %d: %s", i, fmt.Sprint(x))
		}
	}
	lookAtRead(t, packed(all()), all())
	lookAtSaidAgain(t, all())
}
