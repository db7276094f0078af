package number_test

import (
	"cmp"
	"math"
	"math/big"
	"slices"
	"strings"
	"testing"

	"graftwood/api"
	"graftwood/number"
)

// many is how many digits a number of very many of them has here.
const many = 100000

// numbers are texts of numbers, each another one; pairs of them are gone through.
var numbers = []string{
	"0", "1", "2", "7", "8", "9", "10", "11", "12", "13", "19", "20", "90", "98", "99", "100", "101", "109", "110", "190",
	"199", "200", "989", "990", "998", "999", "1000", "1099", "9999", "10000", "10999",
	"4294967295", "4294967296", "9223372036854775807", "9223372036854775808", "9999999999999999999",
	"10000000000000000000", "18446744073709551609", "18446744073709551610", "18446744073709551614",
	"18446744073709551615", "18446744073709551616", "18446744073709551617", "18446744073709551620",
	"18446744073709551625", "18446744073709551999", "20000000000000000000", "36893488147419103232",
	"99999999999999999999", "100000000000000000000", "100000000000000000001", "184467440737095516150",
	"184467440737095516160", "340282366920938463463374607431768211456", "999999999999999999999999999999999999999999",
	"1" + strings.Repeat("0", 300), "1" + strings.Repeat("0", 299) + "1", strings.Repeat("9", 300), strings.Repeat("9", 299) + "8",
}

// wrong are texts that are no number's.
var wrong = []string{
	"", "00", "01", "007", "000", "010", "09", "-", "+", "-1", "-0", "+1", "+0", " ", " 1", "1 ", "1 2", "\t1", "1\n", "\n",
	"a", "1a", "a1", "1a2", "x", "0x", "0x1", "0b1", "1e3", "1.0", "1.", ".1", "1_000", "1,000", "1/2", "/", ":", "1:", "1/",
	"\x00", "1\x00", "\x001", "\xff", "1\xff", "٣", "1٣", "１", "²", "0\x00", "0 ", "00000000000000000000", "018446744073709551615",
	"18446744073709551615a", "18446744073709551616a", "99999999999999999999999x", "x99999999999999999999999",
	"9999999999999-999999999999999", strings.Repeat("0", many), strings.Repeat("9", many) + "x", "0" + strings.Repeat("9", many),
}

// bigOf is a number's text as a number of any length.
func bigOf(t *testing.T, s string) *big.Int {
	t.Helper()
	n, ok := new(big.Int).SetString(s, 10)
	if !ok {
		t.Fatalf("the test's own %q is no number", s)
	}
	return n
}

// short is a text, cut where it is too long to be shown.
func short(s string) string {
	if len(s) > 60 {
		return s[:60] + ".."
	}
	return s
}

// P2.1

func TestMayOfNumbers(t *testing.T) {
	for _, s := range append(slices.Clone(numbers), strings.Repeat("9", many), "1"+strings.Repeat("0", many)) {
		if !number.May(s) {
			t.Errorf("May(%q): false", short(s))
		}
	}
}

func TestMayOfWrong(t *testing.T) {
	for _, s := range wrong {
		if number.May(s) {
			t.Errorf("May(%q): true", short(s))
		}
	}
}

func TestMayOfEachOctet(t *testing.T) {
	for c := range 256 {
		digit := c >= 48 && c <= 57
		one := string([]byte{byte(c)})
		for _, s := range []string{one, "1" + one, "1" + one + "1", "12345" + one + "67890"} {
			if number.May(s) != digit {
				t.Errorf("May(%q): %v", s, !digit)
			}
		}
		if number.May(one+"1") != (digit && c != '0') {
			t.Errorf("May(%q): %v", one+"1", number.May(one+"1"))
		}
		if number.May("0" + one) {
			t.Errorf("May(%q): true", "0"+one)
		}
	}
}

func TestCmp(t *testing.T) {
	for _, c := range []struct {
		a, b string
		want int
	}{
		{"0", "0", 0}, {"0", "1", -1}, {"1", "0", 1}, {"7", "7", 0}, {"9", "10", -1}, {"10", "9", 1}, {"12", "13", -1},
		{"13", "12", 1}, {"2", "10", -1}, {"21", "12", 1}, {"99", "100", -1}, {"100", "99", 1}, {"1000", "999", 1},
		{"18446744073709551615", "18446744073709551616", -1}, {"18446744073709551616", "0", 1},
		{"18446744073709551617", "1", 1}, {"18446744073709551616", "18446744073709551616", 0},
		{"99999999999999999999", "100000000000000000000", -1}, {"100000000000000000000", "99999999999999999999", 1},
	} {
		if got, e := number.Cmp(c.a, c.b); got != c.want || e != api.OK {
			t.Errorf("Cmp(%s, %s): %d, %d", c.a, c.b, got, e)
		}
	}
}

func TestCmpOfManyDigits(t *testing.T) {
	nines := strings.Repeat("9", many)
	less := strings.Repeat("9", many-1) + "8"
	first := "8" + strings.Repeat("9", many-1)
	more := "1" + strings.Repeat("0", many)
	rising := []string{"0", "9", first, less, nines, more}
	for i, a := range rising {
		for j, b := range rising {
			if got, e := number.Cmp(a, b); got != cmp.Compare(i, j) || e != api.OK {
				t.Errorf("Cmp of %d and %d: %d, %d", i, j, got, e)
			}
		}
	}
}

func TestCmpOfWrong(t *testing.T) {
	for _, s := range wrong {
		for _, good := range []string{"0", "1", "7", "10", "18446744073709551616"} {
			if got, e := number.Cmp(s, good); got != 0 || e != api.ErrArg {
				t.Errorf("Cmp(%q, %s): %d, %d", short(s), good, got, e)
			}
			if got, e := number.Cmp(good, s); got != 0 || e != api.ErrArg {
				t.Errorf("Cmp(%s, %q): %d, %d", good, short(s), got, e)
			}
		}
		for _, other := range []string{s, "", "01", "x"} {
			if got, e := number.Cmp(s, other); got != 0 || e != api.ErrArg {
				t.Errorf("Cmp(%q, %q): %d, %d", short(s), other, got, e)
			}
		}
	}
}

// P2.2

func TestOf(t *testing.T) {
	for n, want := range map[uint64]string{
		0: "0", 1: "1", 9: "9", 10: "10", 99: "99", 100: "100", 120: "120", 1<<32 - 1: "4294967295", 1 << 32: "4294967296",
		1<<63 - 1: "9223372036854775807", 1 << 63: "9223372036854775808", 9999999999999999999: "9999999999999999999",
		10000000000000000000: "10000000000000000000", 1<<64 - 2: "18446744073709551614", 1<<64 - 1: "18446744073709551615",
	} {
		if got := number.Of(n); got != want {
			t.Errorf("Of(%d): %q", n, got)
		}
	}
}

func TestValue(t *testing.T) {
	for s, want := range map[string]uint64{
		"0": 0, "1": 1, "9": 9, "10": 10, "120": 120, "4294967296": 1 << 32, "9223372036854775807": 1<<63 - 1,
		"9223372036854775808": 1 << 63, "9999999999999999999": 9999999999999999999,
		"10000000000000000000": 10000000000000000000, "18446744073709551609": 1<<64 - 7, "18446744073709551610": 1<<64 - 6,
		"18446744073709551614": 1<<64 - 2, "18446744073709551615": 1<<64 - 1,
	} {
		if got, e := number.Value(s); got != want || e != api.OK {
			t.Errorf("Value(%s): %d, %d", s, got, e)
		}
	}
}

func TestValueTooLarge(t *testing.T) {
	for _, s := range []string{
		"18446744073709551616", "18446744073709551617", "18446744073709551619", "18446744073709551620", "18446744073709551625",
		"18446744073709551700", "19000000000000000000", "20000000000000000000", "36893488147419103232",
		"99999999999999999999", "100000000000000000000", "184467440737095516150", "184467440737095516160",
		"340282366920938463463374607431768211456", "1" + strings.Repeat("0", 64), "1" + strings.Repeat("0", many),
		strings.Repeat("9", many),
	} {
		if got, e := number.Value(s); got != 0 || e != api.ErrLarge {
			t.Errorf("Value(%s): %d, %d", short(s), got, e)
		}
	}
}

func TestValueOfWrong(t *testing.T) {
	for _, s := range wrong {
		if got, e := number.Value(s); got != 0 || e != api.ErrArg {
			t.Errorf("Value(%q): %d, %d", short(s), got, e)
		}
	}
}

func TestNext(t *testing.T) {
	nines, noughts := strings.Repeat("9", many), strings.Repeat("0", many)
	for s, want := range map[string]string{
		"0": "1", "1": "2", "8": "9", "9": "10", "10": "11", "19": "20", "90": "91", "99": "100", "109": "110", "189": "190",
		"199": "200", "909": "910", "989": "990", "998": "999", "999": "1000", "1000": "1001", "1989": "1990", "9899": "9900",
		"18446744073709551615": "18446744073709551616", "18446744073709551616": "18446744073709551617",
		"99999999999999999999": "100000000000000000000", "19999999999999999999": "20000000000000000000",
		nines: "1" + noughts, "1" + nines: "2" + noughts, "1" + noughts: "1" + noughts[1:] + "1", nines + "8": nines + "9",
	} {
		if got, e := number.Next(s); got != want || e != api.OK {
			t.Errorf("Next(%s): %s, %d", short(s), short(got), e)
		}
	}
}

func TestNextOfNines(t *testing.T) {
	for k := 1; k <= 64; k++ {
		s := strings.Repeat("9", k)
		if got, e := number.Next(s); got != "1"+strings.Repeat("0", k) || e != api.OK {
			t.Errorf("Next(%s): %s, %d", s, got, e)
		}
	}
}

func TestNextOfWrong(t *testing.T) {
	for _, s := range wrong {
		if got, e := number.Next(s); got != "" || e != api.ErrArg {
			t.Errorf("Next(%q): %q, %d", short(s), short(got), e)
		}
	}
}

// P2.3

func TestSameNumberIsSameText(t *testing.T) {
	for _, a := range numbers {
		for _, b := range numbers {
			got, e := number.Cmp(a, b)
			if e != api.OK || (got == 0) != (a == b) {
				t.Errorf("Cmp(%s, %s): %d, %d", short(a), short(b), got, e)
			}
		}
	}
}

func TestOrderIsThatOfTheNumbers(t *testing.T) {
	for _, a := range numbers {
		for _, b := range numbers {
			want := bigOf(t, a).Cmp(bigOf(t, b))
			if got, e := number.Cmp(a, b); got != want || e != api.OK {
				t.Errorf("Cmp(%s, %s): %d, %d", short(a), short(b), got, e)
			}
			v, ev := number.Value(a)
			w, ew := number.Value(b)
			if ev == api.OK && ew == api.OK && cmp.Compare(v, w) != want {
				t.Errorf("values of %s and %s: %d, %d", a, b, v, w)
			}
		}
	}
}

func TestCountingFromNought(t *testing.T) {
	s := number.Of(0)
	for n := range uint64(20000) {
		if v, e := number.Value(s); s != number.Of(n) || v != n || e != api.OK || !number.May(s) {
			t.Fatalf("the number %d: %q, %d, %d", n, s, v, e)
		}
		next, e := number.Next(s)
		if c, ec := number.Cmp(s, next); e != api.OK || c != -1 || ec != api.OK {
			t.Fatalf("Next(%s): %q, %d", s, next, e)
		}
		s = next
	}
}

func TestNextIsOneMore(t *testing.T) {
	for _, s := range numbers {
		want := new(big.Int).Add(bigOf(t, s), big.NewInt(1)).String()
		if got, e := number.Next(s); got != want || e != api.OK {
			t.Errorf("Next(%s): %s, %d", short(s), short(got), e)
		}
	}
}

func TestValueAndOfTurnOneAnotherBack(t *testing.T) {
	most := new(big.Int).SetUint64(math.MaxUint64)
	for _, s := range numbers {
		n := bigOf(t, s)
		v, e := number.Value(s)
		if n.Cmp(most) > 0 {
			if v != 0 || e != api.ErrLarge {
				t.Errorf("Value(%s): %d, %d", short(s), v, e)
			}
		} else if e != api.OK || v != n.Uint64() || number.Of(v) != s {
			t.Errorf("Value(%s): %d, %d", s, v, e)
		}
	}
	for shift := range 64 {
		for _, n := range []uint64{1 << shift, 1<<shift - 1, math.MaxUint64 >> shift, math.MaxUint64 << shift} {
			s := number.Of(n)
			if v, e := number.Value(s); v != n || e != api.OK || !number.May(s) {
				t.Errorf("Value of Of(%d), %q: %d, %d", n, s, v, e)
			}
		}
	}
}
