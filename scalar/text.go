package scalar

import (
	"strconv"
	"strings"

	"cartouche/api"
	"cartouche/quote"
)

const (
	trueText     = "true"
	falseText    = "false"
	minus        = "-"
	floatSign    = "f" // ahead of a Float's bits
	doubleSign   = "d" // ahead of a Double's
	floatDigits  = 8   // digits by base 16 of a Float's bits
	doubleDigits = 16  // of a Double's
	baseTen      = 10  // of whole numbers
	baseSixteen  = 16  // of bits
)

// Text writes a value as a text.
func Text(kind int, v api.Val) (string, api.Errno) {
	if e := fault(kind, v); e != api.OK {
		return "", e
	}
	switch kind {
	case api.Bool:
		return boolText(v.N), api.OK
	case api.Float:
		return bitsText(floatSign, v.N, floatDigits), api.OK
	case api.Double:
		return bitsText(doubleSign, v.N, doubleDigits), api.OK
	case api.String, api.Bytes:
		return quote.Quote(v.B), api.OK
	}
	if hasNegatives(kind) {
		return strconv.FormatInt(int64(v.N), baseTen), api.OK
	}
	return strconv.FormatUint(v.N, baseTen), api.OK
}

func boolText(n uint64) string {
	if n == 0 {
		return falseText
	}
	return trueText
}

func bitsText(sign string, n uint64, size int) string {
	digits := strconv.FormatUint(n, baseSixteen)
	return sign + strings.Repeat("0", size-len(digits)) + digits
}

// Parse reads one.
func Parse(kind int, s string) (v api.Val, e api.Errno) {
	if !single(kind) {
		return api.Val{}, api.ErrArg
	}
	switch kind {
	case api.Bool:
		v.N, e = parseBool(s)
	case api.Float:
		v.N, e = parseBits(s, floatSign, floatDigits)
	case api.Double:
		v.N, e = parseBits(s, doubleSign, doubleDigits)
	case api.String, api.Bytes:
		v.B, e = quote.Unquote(s)
	default:
		v.N, e = parseWhole(kind, s)
	}
	if e == api.OK {
		e = fault(kind, v)
	}
	if e != api.OK {
		return api.Val{}, e
	}
	return v, api.OK
}

func parseBool(s string) (uint64, api.Errno) {
	switch s {
	case falseText:
		return 0, api.OK
	case trueText:
		return 1, api.OK
	}
	return 0, api.ErrSyntax
}

func parseBits(s, sign string, size int) (uint64, api.Errno) {
	digits, ok := strings.CutPrefix(s, sign)
	if !ok || len(digits) != size {
		return 0, api.ErrSyntax
	}
	n, err := strconv.ParseUint(digits, baseSixteen, 64)
	if err != nil {
		return 0, api.ErrSyntax
	}
	return n, api.OK
}

// parseWhole reads a whole number that need not fit its kind, but in 64 bits.
func parseWhole(kind int, s string) (uint64, api.Errno) {
	digits := s
	if hasNegatives(kind) {
		digits = strings.TrimPrefix(s, minus)
	}
	// Asked ahead of strconv: behind 64 bits it would not look at what follows.
	if !allDigits(digits) {
		return 0, api.ErrSyntax
	}
	var n uint64
	var err error
	if hasNegatives(kind) {
		var signed int64
		signed, err = strconv.ParseInt(s, baseTen, 64)
		n = uint64(signed)
	} else {
		n, err = strconv.ParseUint(s, baseTen, 64)
	}
	if err != nil {
		return 0, api.ErrRange
	}
	return n, api.OK
}

// allDigits tells whether there are digits, and nothing else.
func allDigits(s string) bool {
	for i := range len(s) {
		if s[i] < '0' || s[i] > '9' {
			return false
		}
	}
	return len(s) > 0
}
