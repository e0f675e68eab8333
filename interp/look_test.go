package interp_test

import (
	"bytes"
	"testing"

	"cartouche/api"
	"cartouche/interp"
	"cartouche/model"
	"cartouche/samples"
)

var (
	em, wide, single      = samples.Small, samples.Wide, samples.Single
	num, str, in          = samples.Num, samples.Str, samples.In
	msg, field, pairs     = samples.Msg, samples.Field, samples.Pairs
	unknown, text, varint = samples.Unknown, samples.Chunk, samples.Varint
	told, shortly         = samples.Told, samples.Shortly
	ownWire               = samples.Wire
	all, digits, inside   = samples.Join, samples.Digits, samples.Inside
	tag, chunk            = samples.Tag, samples.Framed
)

// In the tables that single tells.
const (
	around = samples.Around
	number = samples.Number
)

func lookAtRead(t *testing.T, x api.Table, index int, b []byte, want api.Msg) {
	t.Helper()
	got, e := interp.Decode(x, index, b)
	if e != api.OK || told(got) != told(want) {
		t.Errorf("Decode(% d): %s, error %d; want %s", b[:min(len(b), 100)], shortly(got), e, shortly(want))
	}
	if ok, _ := model.Typed(x, index, got); !ok {
		t.Errorf("Decode(% d): %s is not typed", b[:min(len(b), 100)], shortly(got))
	}
}

// lookAtFault sees that both calls that read tell that error, and nothing beside.
func lookAtFault(t *testing.T, x api.Table, index int, b []byte, want api.Errno) {
	t.Helper()
	got, e := interp.Decode(x, index, b)
	if e != want || told(got) != "{}" {
		t.Errorf("Decode(% d): %s, error %d; want error %d", b[:min(len(b), 100)], shortly(got), e, want)
	}
	if known, unknown, e := interp.Entries(x, index, b); e != want || known != 0 || unknown != 0 {
		t.Errorf("Entries(% d): %d, %d, error %d; want error %d", b[:min(len(b), 100)], known, unknown, e, want)
	}
}

// lookAtWritten sees that a message has these bytes, by both calls that write.
func lookAtWritten(t *testing.T, x api.Table, index int, m api.Msg, want []byte) {
	t.Helper()
	got, e := interp.Encode(x, index, m)
	if e != api.OK || !bytes.Equal(got, want) {
		t.Errorf("Encode(%s): % d, error %d; want % d", shortly(m), got[:min(len(got), 100)], e, want[:min(len(want), 100)])
	}
	if n, e := interp.Size(x, index, m); e != api.OK || n != len(want) {
		t.Errorf("Size(%s): %d, error %d; want %d", shortly(m), n, e, len(want))
	}
}

// lookAtRefused sees that both calls that write tell that error, and nothing beside.
func lookAtRefused(t *testing.T, x api.Table, index int, m api.Msg, want api.Errno) {
	t.Helper()
	if got, e := interp.Encode(x, index, m); e != want || len(got) > 0 {
		t.Errorf("Encode(%s): %d bytes, error %d; want error %d", shortly(m), len(got), e, want)
	}
	if n, e := interp.Size(x, index, m); e != want || n != 0 {
		t.Errorf("Size(%s): %d, error %d; want error %d", shortly(m), n, e, want)
	}
}
