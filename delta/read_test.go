package delta_test

import (
	"testing"

	"cartouche/api"
	"cartouche/delta"
	"cartouche/samples"
)

// TestP21_3ReadForm has bytes that are entries, but not those of steps: of other numbers and kinds, in another order, one less, one more.
func TestP21_3ReadForm(t *testing.T) {
	path, f, n, rest := []byte{10, 0}, []byte{18, 2, 8, 5}, []byte{24, 1}, []byte{34, 2, 72, 1}
	step := func(do int, l ...[]byte) []byte { return all(tag(do, api.Chunk), framed(l...)) }
	lookAtRead(t, em(), 1, all(step(1, path, f), step(2, path, n), step(3, path, rest)), put(field(1, num(5))), take(1), keep([]api.Entry{varint(9, 1)}))
	right := map[int][]byte{1: f, 2: n, 3: rest}
	for do := range 6 {
		for own, behind := range right {
			if do == 0 || do != own {
				lookAtUnread(t, em(), 1, all(samples.Digits(uint64(do*8+2)), framed(path, behind)))
				continue
			}
			for _, l := range [][]byte{
				nil, path, behind, all(behind, path), all(path, path), all(behind, behind), all(path, behind, behind), all(path, path, behind), all(path, behind, path), all(path, behind, []byte{40, 0}), all([]byte{40, 0}, path, behind), all(path, []byte{40, 0}, behind),
				all([]byte{8, 0}, behind), all([]byte{13, 0, 0, 0, 0}, behind), all([]byte{26, 0}, behind), all([]byte{2, 0}, behind), all([]byte{11}, behind), all(path, []byte{0}), all(path, behind[:len(behind)-1]),
			} {
				lookAtUnread(t, em(), 1, step(do, l))
			}
		}
	}
	for _, b := range [][]byte{{0}, {1}, {8, 1}, {16, 1}, {24, 1}, {9, 0, 0, 0, 0, 0, 0, 0, 0}, {13, 0, 0, 0, 0}, {18}, {18, 5, 10, 0, 24, 1}, {18, 4, 10, 0, 24}, {34, 0}, {34, 4, 10, 0, 24, 1}, {2, 4, 10, 0, 24, 1}, {19}, {128}} {
		if l, e := delta.Read(em(), 1, b); e != api.ErrSyntax || len(l) > 0 {
			t.Errorf("Read(% d): %s, error %d", b, toldSteps(l), e)
		}
	}
	for _, kind := range []int{0, 1, 5} { // what stands behind is as long as if it were a chunk
		lookAtUnread(t, em(), 1, all(samples.Digits(uint64(16+kind)), []byte{4, 10, 0, 24, 1, 0, 0, 0}))
		lookAtUnread(t, em(), 1, step(1, path, samples.Digits(uint64(16+kind)), []byte{2, 8, 5, 0, 0, 0, 0, 0}))
		lookAtUnread(t, em(), 1, step(3, path, samples.Digits(uint64(32+kind)), []byte{2, 72, 1, 0, 0, 0, 0, 0}))
	}
	lookAtUnread(t, em(), 1, step(2, path, []byte{26, 1, 1}))
	lookAtUnread(t, em(), 1, step(2, path, []byte{29, 1, 0, 0, 0}))
	lookAtUnread(t, em(), 1, step(2, path, []byte{25, 1, 0, 0, 0, 0, 0, 0, 0}))
}

// longer tells bytes with the varint that ends at a place in a longer form.
func longer(b []byte, at int) []byte { return all(b[:at], []byte{b[at] | 128, 0}, b[at+1:]) }

// TestP21_3ReadLonger has each varint in a longer form, by itself: tags, sizes, numbers of the path, what is taken, and those within.
func TestP21_3ReadLonger(t *testing.T) {
	step := func(do int, l ...[]byte) []byte { return all(tag(do, api.Chunk), framed(l...)) }
	for _, row := range []struct {
		do    int
		parts []byte
	}{
		{1, []byte{10, 2, 3, 3, 18, 2, 8, 5}}, {1, []byte{10, 0, 18, 4, 18, 2, 1, 2}}, {1, []byte{10, 0, 18, 4, 26, 2, 40, 1}}, {2, []byte{10, 1, 3, 24, 1}}, {3, []byte{10, 1, 3, 34, 3, 74, 1, 7}},
	} {
		whole := step(row.do, row.parts)
		if l, e := delta.Read(em(), 1, whole); e != api.OK || len(l) != 1 {
			t.Errorf("Read(% d): %s, error %d", whole, toldSteps(l), e)
		}
		lookAtUnread(t, em(), 1, longer(whole, 0))
		lookAtUnread(t, em(), 1, longer(whole, 1))
		for at := range row.parts {
			lookAtUnread(t, em(), 1, step(row.do, longer(row.parts, at)))
		}
	}
	for _, row := range [][]byte{{18, 3, 136, 0, 5}, {18, 3, 8, 133, 0}, {18, 5, 18, 130, 0, 1, 2}, {18, 5, 18, 3, 129, 0, 2}, {18, 5, 26, 3, 168, 0, 1}, {18, 5, 26, 3, 40, 129, 0}, {18, 5, 26, 130, 0, 40, 1}, {34, 3, 200, 0, 1}, {34, 3, 72, 129, 0}, {34, 4, 74, 129, 0, 7}} {
		do := 1
		if row[0] == 34 {
			do = 3
		}
		lookAtUnread(t, em(), 1, step(do, []byte{10, 0}, row))
	}
	for _, path := range [][]byte{{131, 0}, {3, 131, 0}, {131, 0, 3}, {131, 128, 0}, {131}, {3, 128}} {
		lookAtUnread(t, em(), 1, entry(2, path, []byte{24, 1}))
	}
	lookAtUnread(t, em(), 1, entry(2, []byte{255, 255, 255, 255, 255, 255, 255, 255, 255, 2}, []byte{24, 1}))
}

// TestP21_3ReadPut has messages within a Put that no field alone is: none, several, such as are not normal, and such as are no messages.
func TestP21_3ReadPut(t *testing.T) {
	for _, b := range [][]byte{
		nil, {40, 1}, {8, 5, 40, 1}, {40, 1, 8, 5}, {8, 5, 18, 1, 1}, {18, 1, 1, 8, 5}, {8, 0}, {18, 0}, {16, 1}, {18, 1, 1, 18, 1, 2}, {8, 1, 8, 2}, {26, 2, 8, 0}, {26, 2, 18, 0}, {26, 2, 8, 1, 26, 0}, {26, 4, 8, 1, 8, 2}, {26, 5, 18, 1, 1, 8, 5},
		{8}, {11}, {18, 1, 128}, {26, 1, 8}, {8, 128, 128, 128, 128, 8}, {10, 1, 5}, {26, 2, 16, 1}, {18, 2, 129, 0},
	} {
		lookAtUnread(t, em(), 1, ofPut(b, 0))
		lookAtUnread(t, em(), 1, ofPut(b, 2))
	}
	for _, b := range [][]byte{{10, 0}, {48, 1}, {54, 1}, {74, 2, 10, 0}, {74, 2, 18, 0}, {74, 4, 18, 0, 10, 0}, {74, 5, 10, 1, 98, 18, 0, 74, 5, 10, 1, 97, 18, 0}, {82, 4, 8, 1, 16, 1}, {24, 1}, {18, 1, 255}, {88, 1, 106, 0}, {106, 0, 88, 1}} {
		lookAtUnread(t, wide(), 1, ofPut(b, 0))
	}
	for _, b := range [][]byte{{74, 4, 10, 0, 18, 0}, {74, 4, 10, 0, 18, 0, 74, 5, 10, 1, 97, 18, 0}, {88, 0}, {106, 0}, {66, 0, 66, 0}, {32, 0}} {
		if l, e := delta.Read(wide(), 1, ofPut(b, 0)); e != api.OK || len(l) != 1 {
			t.Errorf("Read of a Put of % d: %s, error %d", b, toldSteps(l), e)
		}
	}
}

// TestP21_3ReadCut has steps' bytes that are cut off behind each byte: they are steps' just where one of them ends.
func TestP21_3ReadCut(t *testing.T) {
	steps := []delta.Step{put(field(3, in(msg(field(2, num(300))))), 3, 3), take(300, 3), keep([]api.Entry{varint(9, 1), chunk(8, "abc")}), put(field(2, num(1), num(2))), take(1), keep(nil, 3)}
	ends := map[int]int{}
	for i := range len(steps) + 1 {
		b, e := delta.Bytes(em(), 1, steps[:i])
		if e != api.OK {
			t.Fatalf("%d steps: error %d", i, e)
		}
		ends[len(b)] = i
	}
	b, _ := delta.Bytes(em(), 1, steps)
	for at := range len(b) + 1 {
		i, ok := ends[at]
		if ok {
			lookAtRead(t, em(), 1, b[:at], steps[:i]...)
			lookAtRead(t, em(), 1, b[at:], steps[i:]...)
		} else if l, e := delta.Read(em(), 1, b[:at]); e != api.ErrSyntax || len(l) > 0 {
			t.Errorf("Read(% d): %s, error %d", b[:at], toldSteps(l), e)
		}
	}
}
