package model_test

import (
	"testing"

	"cartouche/api"
	"cartouche/model"
	"cartouche/samples"
)

var (
	tableOf, messageOf           = samples.Table, samples.Message
	em, wide, single, full       = samples.Small, samples.Wide, samples.Single, samples.Full
	num, str, in, values, rising = samples.Num, samples.Str, samples.In, samples.Values, samples.Rising
	msg, field, pairs            = samples.Msg, samples.Field, samples.Pairs
	unknown, chunk, varint       = samples.Unknown, samples.Chunk, samples.Varint
	told, shortly, wholly        = samples.Told, samples.Shortly, samples.Wholly
	copyOf, emptied, withRoom    = samples.Copy, samples.Emptied, samples.WithRoom
)

// In the tables that single tells.
const (
	around = samples.Around
	number = samples.Number
)

// What a message is by a type: not typed, typed but not normal, normal.
const (
	other = iota
	typed
	normal
)

func lookAt(t *testing.T, x api.Table, index int, m api.Msg, want int) {
	t.Helper()
	isTyped, e1 := model.Typed(x, index, m)
	isNormal, e2 := model.Normal(x, index, m)
	if e1 != api.OK || e2 != api.OK || isTyped != (want >= typed) || isNormal != (want == normal) {
		t.Errorf("type %d, %s: typed %v (error %d), normal %v (error %d); want %d of 0 other, 1 typed, 2 normal", index, shortly(m), isTyped, e1, isNormal, e2, want)
	}
	settled, e := model.Settle(x, index, m)
	if want == other && (e != api.ErrType || told(settled) != "{}") {
		t.Errorf("type %d, %s, that is not typed: Settle tells %s, error %d", index, shortly(m), shortly(settled), e)
	}
	if want != other && (e != api.OK || (told(settled) == told(m)) != (want == normal)) {
		t.Errorf("type %d, %s: Settle tells %s, error %d; want %d of 1 typed, 2 normal", index, shortly(m), shortly(settled), e, want)
	}
}

func lookAtMessage(t *testing.T, what string, got, want api.Msg) {
	t.Helper()
	if told(got) != told(want) {
		t.Errorf("%s: %s, want %s", what, shortly(got), shortly(want))
	}
}
