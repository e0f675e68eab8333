package model

import (
	"iter"

	"cartouche/api"
)

// walk goes through a message and all messages within it, each ahead of those within, as long as all hold. What is known of a message (its type, its depth) goes down with it: K.
func walk[K any](known K, m api.Msg, holds func(K, api.Msg) bool, below func(K, api.Field) K) bool {
	if !holds(known, m) {
		return false
	}
	for _, f := range m.Fields {
		inner := below(known, f)
		for within := range messagesOf(f) {
			if !walk(inner, within, holds, below) {
				return false
			}
		}
	}
	return true
}

// messagesOf goes through the messages that a field holds, in keys too: any plain message may have some there.
func messagesOf(f api.Field) iter.Seq[api.Msg] {
	return func(yield func(api.Msg) bool) {
		for _, l := range [...][]api.Val{f.Keys, f.Vals} {
			for _, v := range l {
				for _, m := range v.M {
					if !yield(m) {
						return
					}
				}
			}
		}
	}
}

// rebuilt tells in new memory what stays of a message and of all messages within it.
func rebuilt[K any](known K, m api.Msg, stays func(K, api.Msg) api.Msg, below func(K, api.Field) K) api.Msg {
	newField := func(f api.Field) api.Field {
		inner := below(known, f)
		newMsg := func(m api.Msg) api.Msg { return rebuilt(inner, m, stays, below) }
		newVal := func(v api.Val) api.Val { return api.Val{N: v.N, B: newBytes(v.B), M: turned(v.M, newMsg)} }
		return api.Field{Number: f.Number, Keys: turned(f.Keys, newVal), Vals: turned(f.Vals, newVal)}
	}
	m = stays(known, m)
	return api.Msg{Fields: turned(m.Fields, newField), Unknown: turned(m.Unknown, newEntry)}
}

func newEntry(x api.Entry) api.Entry {
	x.B = newBytes(x.B)
	return x
}

func newBytes(b []byte) []byte { return append([]byte(nil), b...) }

// turned tells what a function makes of each one of a list.
func turned[T any](l []T, turn func(T) T) []T {
	var out []T
	for _, x := range l {
		out = append(out, turn(x))
	}
	return out
}

// chosen tells those of a list that are so.
func chosen[T any](l []T, isSo func(T) bool) []T {
	var out []T
	for _, x := range l {
		if isSo(x) {
			out = append(out, x)
		}
	}
	return out
}

// every tells whether all of a list are so.
func every[T any](l []T, isSo func(T) bool) bool {
	for _, x := range l {
		if !isSo(x) {
			return false
		}
	}
	return true
}
