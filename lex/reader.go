package lex

import (
	"strconv"
	"strings"

	"cartouche/api"
	"cartouche/quote"
)

const (
	blanks        = " \t\r\n"
	signs         = "{}[]()<>=;,.-:?"
	slash         = '/'
	star          = '*'
	quoteMark     = '"'
	escapeMark    = '\\'
	lineEnd       = '\n'
	blockEnd      = "*/"
	sixteenMark   = "0x" // ahead of digits by base 16
	digitsTen     = "0123456789"
	digitsSixteen = digitsTen + "abcdefABCDEF"
	baseTen       = 10
	baseSixteen   = 16
)

type place struct{ line, col int }

// reader goes through a text once, from the left. The word, blank or comment that it is in began at from, which has the place begun.
type reader struct {
	text        string
	from, at    int
	begun, here place
	kept        []Word
}

// words keeps all words up to the End, or tells the first fault, which is at begun.
func (r *reader) words() (e api.Errno) {
next:
	r.from, r.begun = r.at, r.here
	switch c := r.peek(); {
	case r.ended():
		r.keep(Word{Kind: End})
		return api.OK
	case isOneOf(blanks, c):
		r.pass()
	case c == slash:
		e = r.comment()
	case beginsName(c):
		r.name()
	case isOneOf(digitsTen, c):
		e = r.number()
	case c == quoteMark:
		e = r.quoted()
	case isOneOf(signs, c):
		r.sign()
	default:
		e = api.ErrSyntax
	}
	if e == api.OK {
		goto next
	}
	return e
}

func (r *reader) comment() api.Errno {
	r.pass()
	switch r.peek() {
	case slash:
		goto line
	case star:
		// Passed here, so that it does not count as the star of the comment's end too.
		r.pass()
		goto block
	}
	return api.ErrSyntax
line:
	if r.ended() || r.peek() == lineEnd {
		return api.OK
	}
	r.pass()
	goto line
block:
	if r.ended() {
		return api.ErrSyntax
	}
	if strings.HasPrefix(r.rest(), blockEnd) {
		r.passAll(blockEnd)
		return api.OK
	}
	r.pass()
	goto block
}

func (r *reader) name() {
letter:
	r.pass()
	if isInName(r.peek()) {
		goto letter
	}
	r.keep(Word{Kind: Name})
}

func (r *reader) number() api.Errno {
	base, digits := baseTen, digitsTen
	if strings.HasPrefix(r.rest(), sixteenMark) {
		base, digits = baseSixteen, digitsSixteen
		r.passAll(sixteenMark)
	}
	first := r.at
digit:
	if isOneOf(digits, r.peek()) {
		r.pass()
		goto digit
	}
	if r.at == first || isInName(r.peek()) {
		return api.ErrSyntax
	}
	n, err := strconv.ParseUint(r.text[first:r.at], base, 64)
	if err != nil {
		// The form was asked above: all that is left to be wrong is the size.
		return api.ErrRange
	}
	r.keep(Word{Kind: Number, N: n})
	return api.OK
}

func (r *reader) quoted() api.Errno {
part:
	r.pass()
	switch {
	case r.ended():
		return api.ErrSyntax
	case r.peek() == escapeMark:
		goto escape
	case r.peek() == quoteMark:
		goto end
	}
	goto part
escape:
	r.pass()
	if r.ended() {
		return api.ErrSyntax
	}
	// The next step passes the byte behind the backslash, whatever it is.
	goto part
end:
	r.pass()
	// Unquote refuses a byte 10 as well.
	b, e := quote.Unquote(r.seen())
	if e != api.OK {
		return api.ErrSyntax
	}
	r.keep(Word{Kind: Text, B: b})
	return api.OK
}

func (r *reader) sign() {
	r.pass()
	r.keep(Word{Kind: Sign})
}

func (r *reader) ended() bool { return r.at == len(r.text) }

// peek tells the next byte. Behind the last one it is 0, which begins no word; comments and texts, in which a 0 may stand, ask ended ahead.
func (r *reader) peek() byte {
	if r.ended() {
		return 0
	}
	return r.text[r.at]
}

// pass goes over the next byte; the text must not have ended.
func (r *reader) pass() {
	if r.text[r.at] == lineEnd {
		r.here = place{line: r.here.line + 1}
	}
	r.here.col++
	r.at++
}

// passAll goes over bytes that were seen to be the next ones.
func (r *reader) passAll(ahead string) {
	for range len(ahead) {
		r.pass()
	}
}

func (r *reader) rest() string { return r.text[r.at:] }

func (r *reader) seen() string { return r.text[r.from:r.at] }

// keep adds a word with its bytes and its place. The bytes are copied, so that an answer shares no memory with the text.
func (r *reader) keep(w Word) {
	w.S = strings.Clone(r.seen())
	w.Line, w.Col = r.begun.line, r.begun.col
	r.kept = append(r.kept, w)
}

func isOneOf(set string, c byte) bool { return strings.IndexByte(set, c) >= 0 }

func beginsName(c byte) bool { return c >= 'a' && c <= 'z' || c >= 'A' && c <= 'Z' || c == '_' }

func isInName(c byte) bool { return beginsName(c) || isOneOf(digitsTen, c) }
