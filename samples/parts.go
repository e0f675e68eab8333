// Package samples: tables and messages for the tests of all layers, by hand and by chance. What is by chance hangs on a seed alone.
package samples

import (
	"cartouche/api"
)

// Num is a number's value.
func Num(n int64) api.Val { return api.Val{N: uint64(n)} }

// Str is a value of bytes.
func Str(s string) api.Val { return api.Val{B: []byte(s)} }

// In is a value of messages: of one, if it is to be typed.
func In(l ...api.Msg) api.Val { return api.Val{M: l} }

// Msg is a message of fields.
func Msg(l ...api.Field) api.Msg { return api.Msg{Fields: l} }

// Unknown is a message of entries that are not known.
func Unknown(l ...api.Entry) api.Msg { return api.Msg{Unknown: l} }

// Field is a field without keys.
func Field(number int, l ...api.Val) api.Field { return api.Field{Number: number, Vals: l} }

// Pairs is a field of a map: a key, its value, the next key ..
func Pairs(number int, l ...api.Val) api.Field {
	f := api.Field{Number: number}
	for i := 0; i+1 < len(l); i += 2 {
		f.Keys, f.Vals = append(f.Keys, l[i]), append(f.Vals, l[i+1])
	}
	return f
}

// Chunk is an entry of bytes.
func Chunk(number int, s string) api.Entry {
	return api.Entry{Number: number, Kind: api.Chunk, B: []byte(s)}
}

// Varint is an entry of a number.
func Varint(number int, n uint64) api.Entry { return api.Entry{Number: number, N: n} }

// Nested tells a message within so many others, each one in the field of that number.
func Nested(number, around int, m api.Msg) api.Msg {
	for range around {
		m = Msg(Field(number, In(m)))
	}
	return m
}
