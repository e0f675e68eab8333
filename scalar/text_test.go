package scalar_test

import (
	"fmt"
	"math/big"
	"strings"
	"testing"

	"cartouche/api"
	"cartouche/scalar"
)

func wantText(t *testing.T, kind int, v api.Val, want string, e api.Errno) {
	t.Helper()
	if s, gotE := scalar.Text(kind, v); s != want || gotE != e {
		t.Errorf("Text(%d, %v) = %.80q, %d; want %.80q, %d", kind, v, s, gotE, want, e)
	}
}

func wantParse(t *testing.T, kind int, s string, want api.Val, e api.Errno) {
	t.Helper()
	if v, gotE := scalar.Parse(kind, s); !sameVal(v, want) || gotE != e {
		t.Errorf("Parse(%d, %.80q) = %v, %d; want %v, %d", kind, s, v, gotE, want, e)
	}
}

// whole tells whether a kind's numbers are told in base ten.
func whole(r row) bool {
	switch r.kind {
	case api.Bool, api.Float, api.Double:
		return false
	}
	return r.numeric
}

func TestP3_4Examples(t *testing.T) {
	wantText(t, api.Double, api.Val{N: 0x3ff0000000000000}, "d3ff0000000000000", api.OK)
	wantText(t, api.Bool, number(1), "true", api.OK)
	wantText(t, api.Bool, number(0), "false", api.OK)
	wantParse(t, api.Float, "f3F800000", api.Val{N: 0x3f800000}, api.OK)
	wantParse(t, api.Uint32, "-1", api.Val{}, api.ErrSyntax)
	wantParse(t, api.Int32, "2147483648", api.Val{}, api.ErrRange)
}

func TestP3_4TextOfNumbers(t *testing.T) {
	for _, r := range rows() {
		for _, n := range edgeNumbers() {
			var want string
			switch {
			case !r.numeric:
				continue
			case !inside(r, n):
				wantText(t, r.kind, api.Val{N: n}, "", api.ErrRange)
				continue
			case r.kind == api.Bool:
				want = fmt.Sprint(n == 1)
			case r.kind == api.Float:
				want = fmt.Sprintf("f%08x", n)
			case r.kind == api.Double:
				want = fmt.Sprintf("d%016x", n)
			case r.signed:
				want = fmt.Sprint(int64(n))
			default:
				want = fmt.Sprint(n)
			}
			wantText(t, r.kind, api.Val{N: n}, want, api.OK)
			wantParse(t, r.kind, want, api.Val{N: n}, api.OK)
		}
	}
}

func TestP3_4TextOfBytes(t *testing.T) {
	for _, kind := range []int{api.String, api.Bytes} {
		wantText(t, kind, api.Val{}, `""`, api.OK)
		wantText(t, kind, text("a\"\\\n\t\r\x00\u00e4"), `"a\"\\\n\t\r\x00\xc3\xa4"`, api.OK)
		wantText(t, kind, text(strings.Repeat("a", 70000)), `"`+strings.Repeat("a", 70000)+`"`, api.OK)
	}
	wantText(t, api.String, text("a\xff"), "", api.ErrText)
	wantText(t, api.Bytes, text("a\xff"), `"a\xff"`, api.OK)
}

func TestP3_4TextFaults(t *testing.T) {
	for _, r := range rows()[:16] {
		wantText(t, r.kind, api.Val{M: message()}, "", api.ErrRange)
		if r.numeric {
			wantText(t, r.kind, api.Val{B: []byte{0}}, "", api.ErrRange)
		} else {
			wantText(t, r.kind, api.Val{N: 1, B: []byte("\xff")}, "", api.ErrRange)
		}
	}
	for _, kind := range append(strangers(), api.Message) {
		wantText(t, kind, api.Val{}, "", api.ErrArg)
		wantText(t, kind, api.Val{N: 2, B: []byte("\xff")}, "", api.ErrArg)
	}
}

// wholeTexts are numbers far within 64 bits, at their edges, and far past them.
func wholeTexts() []*big.Int {
	var l []*big.Int
	for _, bits := range []uint{0, 1, 8, 30, 31, 32, 33, 62, 63, 64, 65, 128, 200} {
		for d := int64(-2); d <= 2; d++ {
			n := new(big.Int).Add(new(big.Int).Lsh(big.NewInt(1), bits), big.NewInt(d))
			l = append(l, n, new(big.Int).Neg(n))
		}
	}
	return l
}

// spelt is a number's text with noughts ahead of its digits.
func spelt(n *big.Int, noughts int) string {
	digits := strings.Repeat("0", noughts) + new(big.Int).Abs(n).String()
	if n.Sign() < 0 {
		return "-" + digits
	}
	return digits
}

func TestP3_4ParseWhole(t *testing.T) {
	for _, r := range rows() {
		if !whole(r) {
			continue
		}
		least, greatest := new(big.Int).SetUint64(r.least), new(big.Int).SetUint64(r.greatest)
		if r.signed {
			least, greatest = big.NewInt(int64(r.least)), big.NewInt(int64(r.greatest))
		}
		for _, n := range wholeTexts() {
			for _, noughts := range []int{0, 1, 25, 70000} {
				want, e := api.Val{}, api.OK
				switch {
				case n.Sign() < 0 && !r.signed:
					e = api.ErrSyntax
				case n.Cmp(least) < 0 || n.Cmp(greatest) > 0:
					e = api.ErrRange
				case n.Sign() < 0:
					want = number(n.Int64())
				default:
					want.N = n.Uint64()
				}
				wantParse(t, r.kind, spelt(n, noughts), want, e)
			}
		}
	}
}

func TestP3_4ParseWholeForms(t *testing.T) {
	long := strings.Repeat("9", 70000)
	for _, r := range rows() {
		if !whole(r) {
			continue
		}
		for _, s := range []string{"", "+1", "+", "--1", "1-", "-+1", "+-1", " 1", "1 ", "1\n", "0x1", "0b1", "0o1", "1_0", "1e2", "1.0", "a", "1a", "a1", "true", `"1"`, "\u0661", "1\x00", "99999999999999999999x", "99999999999999999999_", "-", "- 1", "-a", "-99999999999999999999x", "/", ":", "1/", "1:", "f00000001", long + "x"} {
			wantParse(t, r.kind, s, api.Val{}, api.ErrSyntax)
		}
		wantParse(t, r.kind, long, api.Val{}, api.ErrRange)
		wantParse(t, r.kind, "0", api.Val{}, api.OK)
		wantParse(t, r.kind, "0000", api.Val{}, api.OK)
		wantParse(t, r.kind, "007", number(7), api.OK)
		if r.signed {
			wantParse(t, r.kind, "-0", api.Val{}, api.OK)
			wantParse(t, r.kind, "-00", api.Val{}, api.OK)
			wantParse(t, r.kind, "-007", number(-7), api.OK)
			wantParse(t, r.kind, "-"+long, api.Val{}, api.ErrRange)
		} else {
			wantParse(t, r.kind, "-0", api.Val{}, api.ErrSyntax)
			wantParse(t, r.kind, "-1", api.Val{}, api.ErrSyntax)
			wantParse(t, r.kind, "-"+long, api.Val{}, api.ErrSyntax)
		}
	}
}

func TestP3_4ParseBool(t *testing.T) {
	wantParse(t, api.Bool, "true", number(1), api.OK)
	wantParse(t, api.Bool, "false", api.Val{}, api.OK)
	for _, s := range []string{"", "0", "1", "t", "f", "True", "TRUE", "False", "true ", " true", "truefalse", "\"true\"", "-0"} {
		wantParse(t, api.Bool, s, api.Val{}, api.ErrSyntax)
	}
}

func TestP3_4ParseBits(t *testing.T) {
	for _, c := range []struct {
		kind, size int
		sign       string
	}{{api.Float, 8, "f"}, {api.Double, 16, "d"}} {
		noughts := strings.Repeat("0", c.size)
		wantParse(t, c.kind, c.sign+noughts, api.Val{}, api.OK)
		wantParse(t, c.kind, c.sign+strings.Repeat("f", c.size), api.Val{N: all64 >> (64 - 4*c.size)}, api.OK)
		wantParse(t, c.kind, c.sign+strings.Repeat("F", c.size), api.Val{N: all64 >> (64 - 4*c.size)}, api.OK)
		wantParse(t, c.kind, c.sign+noughts[6:]+"9aBcDe", api.Val{N: 0x9abcde}, api.OK)
		for _, s := range []string{"", "0", "1.0", noughts, noughts + "0", c.sign, c.sign + noughts[1:], c.sign + noughts + "0", strings.ToUpper(c.sign) + noughts, "-" + c.sign + noughts, " " + c.sign + noughts[1:], c.sign + noughts + " ", "f0", "d0", "x" + noughts, c.sign + c.sign + noughts} {
			wantParse(t, c.kind, s, api.Val{}, api.ErrSyntax)
		}
		for _, wrong := range "gG/:@`+-_. x\"" {
			for at := range c.size {
				wantParse(t, c.kind, c.sign+noughts[:at]+string(wrong)+noughts[at+1:], api.Val{}, api.ErrSyntax)
			}
		}
	}
	wantParse(t, api.Float, "d00000000", api.Val{}, api.ErrSyntax)
	wantParse(t, api.Float, "d0000000000000000", api.Val{}, api.ErrSyntax)
	wantParse(t, api.Float, "f0000000000000000", api.Val{}, api.ErrSyntax)
	wantParse(t, api.Double, "f0000000000000000", api.Val{}, api.ErrSyntax)
	wantParse(t, api.Double, "d00000000", api.Val{}, api.ErrSyntax)
}

func TestP3_4ParseBytes(t *testing.T) {
	for _, kind := range []int{api.String, api.Bytes} {
		wantParse(t, kind, `""`, api.Val{}, api.OK)
		wantParse(t, kind, `"a\x41\n\"\\\xc3\xA4"`, text("aA\n\"\\\u00e4"), api.OK)
		for _, s := range []string{"", "a", `"`, `"a`, `a"`, `"\q"`, `"\x1"`, `"a"b"`, "\"\n\"", "5"} {
			wantParse(t, kind, s, api.Val{}, api.ErrSyntax)
		}
		most := strings.Repeat("a", api.MaxText-2)
		wantParse(t, kind, `"`+most+`"`, text(most), api.OK)
		wantParse(t, kind, `"`+most+`a"`, api.Val{}, api.ErrTooBig)
		wantParse(t, kind, most+"aaa", api.Val{}, api.ErrTooBig) // as Unquote: ahead of the form
		wantParse(t, kind, most+"aa", api.Val{}, api.ErrSyntax)
		wantParse(t, kind, `"`+most+`\xff"`, api.Val{}, api.ErrTooBig)
	}
	wantParse(t, api.String, `"a\xff"`, api.Val{}, api.ErrText)
	wantParse(t, api.String, "\"a\xff\"", api.Val{}, api.ErrText)
	wantParse(t, api.Bytes, `"a\xff"`, text("a\xff"), api.OK)
	wantParse(t, api.Bytes, "\"a\xff\"", text("a\xff"), api.OK)
	wantParse(t, api.String, `"\xff\q"`, api.Val{}, api.ErrSyntax)
}

func TestP3_4ParseKinds(t *testing.T) {
	for _, kind := range append(strangers(), api.Message) {
		for _, s := range []string{"", "1", "true", `""`, "x", strings.Repeat("9", api.MaxText+1)} {
			wantParse(t, kind, s, api.Val{}, api.ErrArg)
		}
	}
}
