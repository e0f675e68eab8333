package text_test

import (
	"fmt"
	"math/big"
	"strings"
	"testing"

	"cartouche/api"
	"cartouche/samples"
)

// TestP11_2Minus sees that a minus stands ahead of numbers of signed kinds alone.
func TestP11_2Minus(t *testing.T) {
	for kind := api.Bool; kind <= api.Enum; kind++ {
		x, list := single(kind, api.Optional, 0), single(kind, api.Repeated, 0)
		if hasMinus(kind) {
			lookAtRead(t, x, around, "f:-1", msg(field(number, num(-1))))
			lookAtRead(t, list, around, "f[-1 - 1 1]", msg(field(number, num(-1), num(-1), num(1))))
			for _, s := range []string{"f:-^-1", "f:-^", "f:-^}", "f:- ^true", "f:-^\"1\"", "f:-1^-1", "f:1^-"} {
				lookAtMark(t, x, around, s, api.ErrSyntax)
			}
			continue
		}
		for _, s := range []string{"f:^-1", "f:^-", "f:^-0", "f:^- true", "f:^-18446744073709551615", "f:^--"} {
			lookAtMark(t, x, around, s, api.ErrSyntax)
		}
		lookAtMark(t, list, around, "f[^-1]", api.ErrSyntax)
	}
	for _, key := range samples.KeyKinds() {
		x := single(api.Bool, api.Map, key)
		if !hasMinus(key) {
			lookAtMark(t, x, around, "f<^-1:true>", api.ErrSyntax)
			continue
		}
		lookAtRead(t, x, around, "f<1:true - 1:false>", msg(pairs(number, num(-1), num(0), num(1), num(1))))
		lookAtMark(t, x, around, "f<-^-1:true>", api.ErrSyntax)
		lookAtMark(t, x, around, "f<-1:^-true>", api.ErrSyntax)
	}
}

// bounds tells a whole kind's least and greatest number.
func bounds(kind int) (low, high *big.Int) {
	power := func(n uint) *big.Int { return new(big.Int).Lsh(big.NewInt(1), n) }
	less := func(n *big.Int) *big.Int { return n.Sub(n, big.NewInt(1)) }
	switch kind {
	case api.Int32, api.Sint32, api.Sfixed32:
		return power(31).Neg(power(31)), less(power(31))
	case api.Int64, api.Sint64, api.Sfixed64:
		return power(63).Neg(power(63)), less(power(63))
	case api.Uint32, api.Fixed32:
		return big.NewInt(0), less(power(32))
	}
	return big.NewInt(0), less(power(64))
}

func wholeKinds() []int {
	return []int{api.Int32, api.Int64, api.Uint32, api.Uint64, api.Sint32, api.Sint64, api.Fixed32, api.Fixed64, api.Sfixed32, api.Sfixed64}
}

// numerals tells a number by base ten and 16, its minus at it and apart.
func numerals(n *big.Int) []string {
	abs := new(big.Int).Abs(n)
	minus := []string{""}
	if n.Sign() < 0 {
		minus = []string{"-", "- ", "-/* */\n"}
	}
	var l []string
	for _, sign := range minus {
		for _, form := range []string{"%d", "0%d", "000000000000000000000000%d", "0x%x", "0x%X", "0x00000000000000000000%x"} {
			l = append(l, sign+fmt.Sprintf(form, abs))
		}
	}
	return l
}

// TestP11_2ErrRange has the least and the greatest number of each whole kind, and those beyond: as a value, in a list, as a map's key and as its value.
func TestP11_2ErrRange(t *testing.T) {
	for _, kind := range wholeKinds() {
		low, high := bounds(kind)
		step := func(n *big.Int, by int64) *big.Int { return new(big.Int).Add(n, big.NewInt(by)) }
		for _, n := range []*big.Int{low, step(low, 1), high, step(high, -1), big.NewInt(0)} {
			for _, s := range numerals(n) {
				v := num(n.Int64())
				if n.IsUint64() {
					v = api.Val{N: n.Uint64()}
				}
				lookAtRead(t, single(kind, api.Plain, 0), around, "f:"+s, msg(field(number, v)))
				lookAtRead(t, single(kind, api.Packed, 0), around, "f["+s+" 1 "+s+"]", msg(field(number, v, num(1), v)))
				lookAtRead(t, single(kind, api.Map, kind), around, "f<"+s+":"+s+">", msg(pairs(number, v, v)))
			}
		}
		for _, n := range beyond(low, high) {
			for _, s := range numerals(n) {
				for _, label := range oneLabels {
					lookAtMark(t, single(kind, label, 0), around, "f:"+mark+s+" x", api.ErrRange)
				}
				for _, label := range listLabels {
					lookAtMark(t, single(kind, label, 0), around, "f[1\n 2 "+mark+s+" x", api.ErrRange)
				}
				lookAtMark(t, single(kind, api.Map, kind), around, "f<1:1 "+mark+s+" x", api.ErrRange)
				lookAtMark(t, single(kind, api.Map, api.String), around, "f<\"a\":"+mark+s+" x", api.ErrRange)
			}
		}
	}
}

// beyond tells numbers below the least and above the greatest, as far as words can tell them.
func beyond(low, high *big.Int) []*big.Int {
	most := new(big.Int).SetUint64(1<<64 - 1)
	var l []*big.Int
	for _, by := range []string{"1", "2", "2147483648", "4294967296", "18446744069414584319", "18446744073709551614"} {
		n, _ := new(big.Int).SetString(by, 10)
		if above := new(big.Int).Add(high, n); above.Cmp(most) <= 0 {
			l = append(l, above)
		}
		if below := new(big.Int).Sub(low, n); low.Sign() < 0 && below.CmpAbs(most) <= 0 {
			l = append(l, below)
		}
	}
	if high.Cmp(most) < 0 {
		l = append(l, most)
	}
	if low.Sign() < 0 {
		l = append(l, new(big.Int).Neg(most))
	}
	return l
}

// TestP11_2Floats has spellings of bits that are none: too few digits, too many, other signs.
func TestP11_2Floats(t *testing.T) {
	for _, row := range []struct {
		kind   int
		sign   string
		digits int
	}{{api.Float, "f", 8}, {api.Double, "d", 16}} {
		x, list, byKey := single(row.kind, api.Optional, 0), single(row.kind, api.Packed, 0), single(row.kind, api.Map, api.Bool)
		for count := range 20 {
			s := row.sign + strings.Repeat("a", count)
			if count == row.digits {
				lookAtRead(t, x, around, "f:"+s, msg(field(number, api.Val{N: 0xaaaaaaaaaaaaaaaa >> (64 - 4*count)})))
				continue
			}
			lookAtMark(t, x, around, "f:"+mark+s, api.ErrSyntax)
			lookAtMark(t, list, around, "f["+mark+s+"]", api.ErrSyntax)
			lookAtMark(t, byKey, around, "f<true:"+mark+s+">", api.ErrSyntax)
		}
		bits := strings.Repeat("0", row.digits-1)
		for _, digit := range "0123456789abcdefABCDEF" {
			n := fmt.Sprintf("%c", digit)
			want, _ := new(big.Int).SetString(n, 16)
			lookAtRead(t, x, around, "f:"+row.sign+bits+n, msg(field(number, api.Val{N: want.Uint64()})))
			lookAtRead(t, x, around, "f:"+row.sign+n+bits, msg(field(number, api.Val{N: want.Uint64() << (4 * (row.digits - 1))})))
		}
		for _, s := range []string{row.sign + bits + "g", row.sign + "_" + bits, row.sign + bits + "G", strings.ToUpper(row.sign) + bits + "0", "e" + bits + "0", "x" + bits + "0", "true", "f", "d", "inf", "nan", "_"} {
			lookAtMark(t, x, around, "f:"+mark+s, api.ErrSyntax)
		}
		for _, s := range []string{"1", "0x3f800000", `"f00000000"`, "-", "0"} {
			lookAtMark(t, x, around, "f:"+mark+s, api.ErrSyntax)
		}
		lookAtMark(t, x, around, "f:"+row.sign+strings.Repeat("0", row.digits)+" ^0", api.ErrSyntax)
	}
}

func TestP11_2ErrText(t *testing.T) {
	_, bad := values(api.String)
	for _, v := range bad {
		if len(v.B) == 0 || v.N > 0 || len(v.M) > 0 {
			continue
		}
		s := mark + spelt(api.Bytes, v)
		for _, label := range oneLabels {
			lookAtMark(t, single(api.String, label, 0), around, "f:"+s+" f", api.ErrText)
			lookAtRead(t, single(api.Bytes, label, 0), around, "f:"+s[len(mark):], msg(field(number, v)))
		}
		lookAtMark(t, single(api.String, api.Repeated, 0), around, `f["" "a" `+s, api.ErrText)
		lookAtMark(t, single(api.Bool, api.Map, api.String), around, `f<"":true "a":true `+s, api.ErrText)
		lookAtMark(t, single(api.String, api.Map, api.String), around, `f<"":"" "a":`+s, api.ErrText)
		lookAtRead(t, single(api.Bytes, api.Map, api.String), around, `f<"a":`+s[len(mark):]+">", msg(pairs(number, str("a"), v)))
		lookAtRead(t, em(), 1, "?1-2:"+s[len(mark):], unknown(chunk(1, string(v.B))))
		if !strings.Contains(string(v.B), "\n") { // the bytes themselves, too
			lookAtMark(t, single(api.String, api.Plain, 0), around, "f:"+mark+`"`+string(v.B)+`"`, api.ErrText)
		}
	}
	lookAtRead(t, single(api.String, api.Plain, 0), around, "f:\"\u00e9\\xc3\\xa9\"", msg(field(number, str("\u00e9\u00e9"))))
}
