package self_test

import (
	"bytes"
	"slices"
	"strings"
	"testing"

	"cartouche/api"
	"cartouche/samples"
	"cartouche/self"
)

func lookAtPacked(t *testing.T, x api.Table, want []byte) {
	t.Helper()
	if b, e := self.Pack(x); e != api.OK || !bytes.Equal(b, want) {
		t.Errorf("Pack(%s): %s, error %d; want %s", brief(x), brief(b), e, brief(want))
	}
	lookAtRead(t, want, x)
}

func TestP12_3Examples(t *testing.T) {
	lookAtPacked(t, tableOf(em().Types[0]), []byte{10, 10, 10, 1, 69, 16, 1, 42, 3, 10, 1, 65})
	lookAtPacked(t, api.Table{}, nil)
	lookAtRead(t, []byte{}, api.Table{})
	lookAtFault(t, []byte{10, 0}, api.ErrArg)
	lookAtFault(t, []byte{8}, api.ErrEnd)
}

// TestP12_3Bytes has each part of a table in its bytes.
func TestP12_3Bytes(t *testing.T) {
	lookAtPacked(t, em(), []byte{
		10, 10, 10, 1, 69, 16, 1, 42, 3, 10, 1, 65,
		10, 36, 10, 1, 77, 26, 7, 10, 1, 120, 16, 1, 24, 2, 26, 9, 10, 1, 108, 16, 2, 24, 4, 40, 3, 26, 11, 10, 1, 109, 16, 3, 24, 17, 32, 1, 40, 1,
	})
	lookAtPacked(t, oneOf(api.Type{
		Oneofs: []string{"p", "o"}, Reserved: []api.Range{{Low: 300, High: api.MaxNumber}},
		Fields: []api.FieldType{{Name: "f", Number: 1, Kind: api.Bool, Label: api.Member, Oneof: 1}, {Name: "g", Number: 2, Kind: api.Bool, Label: api.Member}, {Name: "k", Number: 200, Kind: api.Bool, Label: api.Map, Key: api.String}},
	}), []byte{
		10, 58, 10, 1, 77,
		26, 11, 10, 1, 102, 16, 1, 24, 1, 40, 4, 48, 1, 26, 9, 10, 1, 103, 16, 2, 24, 1, 40, 4, 26, 12, 10, 1, 107, 16, 200, 1, 24, 1, 40, 5, 56, 14,
		34, 1, 112, 34, 1, 111,
		50, 9, 8, 172, 2, 16, 255, 255, 255, 255, 1,
	})
	lookAtPacked(t, tableOf(few()), []byte{10, 28, 10, 1, 69, 16, 1, 42, 3, 10, 1, 65, 42, 9, 10, 1, 67, 16, 255, 255, 255, 255, 7, 42, 5, 10, 1, 66, 16, 5})
}

// named is a table of one message with a name of so many letters.
func named(count int) api.Table { return tableOf(messageOf(strings.Repeat("x", count))) }

// TestP12_3Size has tables of as many bytes as a message may have, and of one more.
func TestP12_3Size(t *testing.T) {
	const rest = 8 // two tags and two lengths of three bytes
	for _, row := range []struct {
		x    api.Table
		size int
	}{
		{named(api.MaxMessage - rest), api.MaxMessage},
		{named(api.MaxMessage - rest - 1), api.MaxMessage - 1},
		{named(api.MaxMessage - rest + 1), 0},
		{named(2 * api.MaxMessage), 0},
		{tableOf(append(all().Types, named(api.MaxMessage-rest-len(packed(all()))).Types...)...), api.MaxMessage},
		{tableOf(append(all().Types, named(api.MaxMessage-rest-len(packed(all()))+1).Types...)...), 0},
		{samples.Full(), 0},
	} {
		b, e := self.Pack(row.x)
		if row.size == 0 {
			if e != api.ErrTooBig || len(b) > 0 {
				t.Errorf("%d bytes, error %d", len(b), e)
			}
			continue
		}
		if e != api.OK || len(b) != row.size {
			t.Errorf("%d bytes, error %d; want %d", len(b), e, row.size)
		}
		lookAtPacked(t, row.x, packed(row.x))
	}
	// what is too big, and not good, is not good
	full := samples.Full()
	full.Types[127].Fields[127].Kind = 0
	lookAtUnsaid(t, "a great table", full)
	twice := tableOf(named(api.MaxMessage).Types[0], named(api.MaxMessage).Types[0])
	lookAtUnsaid(t, "a long name twice", twice)
	twice.Types[0].Name, twice.Types[1].Name = "A", twice.Types[1].Name+" "
	lookAtUnsaid(t, "a long name that is none", twice)
}

// TestP12_3Faults has bytes that are no message of Table; what they say up to there, and behind it, is not good, or good.
func TestP12_3Faults(t *testing.T) {
	digits := slices.Repeat([]byte{255}, 10)
	for _, row := range []struct {
		b []byte
		e api.Errno
	}{
		{[]byte{10}, api.ErrEnd}, {[]byte{10, 1}, api.ErrEnd}, {[]byte{128}, api.ErrEnd}, {[]byte{10, 2, 10, 1}, api.ErrEnd}, {[]byte{10, 1, 16}, api.ErrEnd}, {[]byte{10, 2, 26, 1}, api.ErrEnd}, {[]byte{10, 3, 26, 1, 16}, api.ErrEnd},
		{digits, api.ErrVarint}, {slices.Concat([]byte{10}, digits), api.ErrVarint}, {slices.Concat([]byte{10, 11, 16}, digits), api.ErrVarint},
		{[]byte{0}, api.ErrNumber}, {[]byte{2, 0}, api.ErrNumber}, {[]byte{10, 1, 0}, api.ErrNumber}, {[]byte{10, 3, 26, 1, 0}, api.ErrNumber},
		{[]byte{11}, api.ErrKind}, {[]byte{12}, api.ErrKind}, {[]byte{10, 1, 11}, api.ErrKind}, {[]byte{10, 3, 50, 1, 15}, api.ErrKind},
		{[]byte{10, 2, 16, 2}, api.ErrRange}, {[]byte{10, 8, 26, 6, 16, 128, 128, 128, 128, 16}, api.ErrRange}, {[]byte{10, 8, 50, 6, 8, 128, 128, 128, 128, 16}, api.ErrRange}, {[]byte{10, 8, 42, 6, 16, 255, 255, 255, 255, 31}, api.ErrRange},
		{[]byte{10, 3, 10, 1, 255}, api.ErrText}, {[]byte{10, 3, 34, 1, 128}, api.ErrText}, {[]byte{10, 5, 26, 3, 10, 1, 195}, api.ErrText}, {[]byte{10, 5, 42, 3, 10, 1, 255}, api.ErrText},
	} {
		lookAtFault(t, row.b, row.e)
		for _, ahead := range [][]byte{{10, 0}, {10, 3, 10, 1, 49}, packed(em()), slices.Concat(packed(em()), packed(em())), {16, 1}} {
			lookAtFault(t, slices.Concat(ahead, row.b), row.e)
		}
	}
	lookAtFault(t, []byte{10, 0, 11, 0}, api.ErrKind)
	lookAtFault(t, []byte{10, 0, 10, 2, 16, 2}, api.ErrRange)
	lookAtFault(t, slices.Concat(packed(em()), packed(em())), api.ErrArg) // each name twice
	lookAtFault(t, []byte{10, 8, 26, 6, 16, 255, 255, 255, 255, 15}, api.ErrArg)
	lookAtFault(t, []byte{10, 11, 10, 1, 77, 26, 6, 10, 1, 102, 16, 1, 24}, api.ErrEnd)
}

// TestP12_3Most has as many bytes as a message may have, and one more.
func TestP12_3Most(t *testing.T) {
	b := packed(em())
	rest := api.MaxMessage - len(b) - 4 // a tag and a length of three bytes
	lookAtRead(t, slices.Concat(b, chunkOf(2, make([]byte, rest))), em())
	lookAtFault(t, slices.Concat(b, chunkOf(2, make([]byte, rest+1))), api.ErrTooBig)
	lookAtFault(t, slices.Concat(b, chunkOf(2, make([]byte, rest)), []byte{0}), api.ErrTooBig)
	lookAtFault(t, make([]byte, api.MaxMessage+1), api.ErrTooBig)
	lookAtFault(t, make([]byte, api.MaxMessage), api.ErrNumber)
	lookAtFault(t, slices.Repeat([]byte{10, 0}, api.MaxMessage/2), api.ErrArg)
	lookAtFault(t, append(slices.Repeat([]byte{10, 0}, api.MaxMessage/2), 0), api.ErrTooBig)
}

// TestP12_3Anyhow has bytes that Pack never tells: parts in another order, several times, defaults, lengthened numbers, entries that are not known within.
func TestP12_3Anyhow(t *testing.T) {
	e := tableOf(em().Types[0])
	for _, b := range [][]byte{
		{10, 10, 42, 3, 10, 1, 65, 16, 1, 10, 1, 69},
		{10, 13, 10, 1, 77, 10, 1, 69, 16, 1, 42, 3, 10, 1, 65},
		{10, 12, 10, 1, 69, 16, 0, 16, 1, 42, 3, 10, 1, 65},
		{10, 12, 10, 1, 69, 16, 1, 42, 5, 10, 1, 65, 16, 0},
		{10, 14, 10, 1, 69, 16, 1, 42, 7, 10, 1, 65, 16, 5, 16, 0},
		{138, 0, 138, 0, 10, 1, 69, 16, 1, 42, 3, 10, 1, 65},
		{10, 12, 10, 1, 69, 16, 1, 42, 3, 10, 1, 65, 80, 7},
		{10, 14, 10, 1, 69, 16, 1, 42, 7, 10, 1, 65, 24, 9, 8, 7},
		{8, 7, 10, 10, 10, 1, 69, 16, 1, 42, 3, 10, 1, 65, 80, 7},
	} {
		lookAtRead(t, b, e)
	}
}
