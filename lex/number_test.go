package lex_test

import (
	"math"
	"strconv"
	"strings"
	"testing"

	"cartouche/api"
)

func lookAtNumber(t *testing.T, s string, n uint64) {
	t.Helper()
	lookAtWords(t, s, number(s, n, 1, 1), end(1, 1+len(s)))
	lookAtWords(t, "\n "+s+";", number(s, n, 2, 2), sign(";", 2, 2+len(s)), end(2, 3+len(s)))
}

func TestP4_1Numbers(t *testing.T) {
	lookAtNumber(t, "0", 0)
	lookAtNumber(t, "00", 0)
	lookAtNumber(t, "7", 7)
	lookAtNumber(t, "00012", 12)
	lookAtNumber(t, "010", 10)
	lookAtNumber(t, "1234567890", 1234567890)
	lookAtNumber(t, "0x0", 0)
	lookAtNumber(t, "0x00", 0)
	lookAtNumber(t, "0x10", 16)
	lookAtNumber(t, "0x000a", 10)
	lookAtNumber(t, "0xabcdef", 0xabcdef)
	lookAtNumber(t, "0xABCDEF", 0xabcdef)
	lookAtNumber(t, "0xaBcDeF", 0xabcdef)
	lookAtNumber(t, "0x0123456789", 0x0123456789)
	lookAtNumber(t, "0x1e5", 0x1e5)
	lookAtNumber(t, "0xb1", 0xb1)
}

// TestP4_1Range asks at 2^64 and one below it, with noughts ahead and without.
func TestP4_1Range(t *testing.T) {
	const most = uint64(math.MaxUint64)
	for _, noughts := range []string{"", "0", strings.Repeat("0", 100)} {
		lookAtNumber(t, noughts+"18446744073709551615", most)
		lookAtNumber(t, "0x"+noughts+"ffffffffffffffff", most)
		lookAtNumber(t, "0x"+noughts+"FFFFFFFFFFFFFFFF", most)
		lookAtNumber(t, noughts+"18446744073709551614", most-1)
		lookAtNumber(t, noughts+"9223372036854775808", 1<<63)
		lookAtNumber(t, "0x"+noughts+"8000000000000000", 1<<63)
		for _, s := range []string{noughts + "18446744073709551616", noughts + "18446744073709551620", noughts + "20000000000000000000", noughts + "99999999999999999999", noughts + "184467440737095516150", "0x" + noughts + "10000000000000000", "0x" + noughts + "ffffffffffffffff0", "0x" + noughts + strings.Repeat("F", 40), noughts + "1" + strings.Repeat("0", 300)} {
			lookAtFault(t, s, api.ErrRange, 1, 1)
			lookAtFault(t, "a "+s+";", api.ErrRange, 1, 3)
			lookAtFault(t, s+"-", api.ErrRange, 1, 1)
			for _, more := range []string{"_", "g", "z", "G", "x"} {
				lookAtFault(t, s+more, api.ErrSyntax, 1, 1) // the form is asked ahead
			}
		}
	}
}

func TestP4_1WrongNumbers(t *testing.T) {
	for _, s := range []string{
		"1a", "1_", "1A", "1_000", "0_", "0a", "0b1", "0o7", "0X1", "0X", "00x1", "10x1", "1e5", "12z34", "9x",
		"0x", "0xg", "0x_", "0x_1", "0xx", "0x0x1", "0x1g", "0x1_", "0x1G", "0xfz", "0xZ", "0x1x", "0xffu",
	} {
		lookAtFault(t, s, api.ErrSyntax, 1, 1)
		lookAtFault(t, "a\n "+s+" b", api.ErrSyntax, 2, 2)
	}
	for _, s := range []string{"0x ", "0x;", "0x-1", "0x\n1", "0x\"1\"", "0x.", "0x/**/1", "0x\x80"} {
		lookAtFault(t, s, api.ErrSyntax, 1, 1)
	}
}

// TestP4_1BehindNumbers lays every byte behind a number: a letter, a digit or _ spoils it or belongs to it, any other does not.
func TestP4_1BehindNumbers(t *testing.T) {
	behind := func(s string, base int) {
		for n := range 256 {
			c := byte(n)
			text := s + string([]byte{c})
			value, err := strconv.ParseUint(strings.TrimPrefix(text, "0x"), base, 64)
			switch {
			case err == nil:
				lookAtNumber(t, text, value)
			case c == '_', c >= 'a' && c <= 'z', c >= 'A' && c <= 'Z':
				lookAtFault(t, text, api.ErrSyntax, 1, 1)
			case strings.IndexByte("{}[]()<>=;,.-:?", c) >= 0:
				value, _ = strconv.ParseUint(strings.TrimPrefix(s, "0x"), base, 64)
				lookAtWords(t, text, number(s, value, 1, 1), sign(text[len(s):], 1, 1+len(s)), end(1, 2+len(s)))
			case strings.IndexByte(" \t\r\n", c) < 0:
				lookAtFault(t, text, api.ErrSyntax, 1, 1+len(s))
			}
		}
	}
	behind("12", 10)
	behind("0x1f", 16)
	lookAtWords(t, "1 2\t0x3\n4", number("1", 1, 1, 1), number("2", 2, 1, 3), number("0x3", 3, 1, 5), number("4", 4, 2, 1), end(2, 2))
	lookAtWords(t, `1"a"2`, number("1", 1, 1, 1), quoted(`"a"`, "a", 1, 2), number("2", 2, 1, 5), end(1, 6))
}
