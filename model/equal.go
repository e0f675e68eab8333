package model

import (
	"bytes"
	"slices"

	"cartouche/api"
)

// Equal tells whether two are the same.
func Equal(a, b api.Msg) bool {
	return slices.EqualFunc(a.Fields, b.Fields, sameField) && slices.EqualFunc(a.Unknown, b.Unknown, sameEntry)
}

func sameField(a, b api.Field) bool {
	return a.Number == b.Number && slices.EqualFunc(a.Keys, b.Keys, sameVal) && slices.EqualFunc(a.Vals, b.Vals, sameVal)
}

func sameVal(a, b api.Val) bool {
	return a.N == b.N && bytes.Equal(a.B, b.B) && slices.EqualFunc(a.M, b.M, Equal)
}

func sameEntry(a, b api.Entry) bool {
	return a.Number == b.Number && a.Kind == b.Kind && a.N == b.N && bytes.Equal(a.B, b.B)
}
