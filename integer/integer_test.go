package integer_test

import (
	"math"
	"math/big"
	"slices"
	"strings"
	"testing"

	"robuststats/api"
	"robuststats/integer"
	"robuststats/natural"
)

// P2.1

func TestValid(t *testing.T) {
	for _, x := range append(samples(), api.Int{Mag: []uint32{}}, plus(0, 0, 7), minus(0, 0, 7)) {
		if !integer.Valid(x) {
			t.Errorf("%v is not valid", x)
		}
	}
	for _, x := range invalid() {
		if integer.Valid(x) {
			t.Errorf("%v is valid", x)
		}
	}
}

func TestInvalidCountsAsZero(t *testing.T) {
	for _, x := range invalid() {
		for _, y := range all() {
			other := y
			if isInvalid(y) {
				other = api.Int{}
			}
			if got, want := answers(x, y), answers(api.Int{}, other); !slices.Equal(got, want) {
				t.Errorf("%v, %v: %v, not %v", x, y, got, want)
			}
			if got, want := answers(y, x), answers(other, api.Int{}); !slices.Equal(got, want) {
				t.Errorf("%v, %v: %v, not %v", y, x, got, want)
			}
		}
		if v, ok := integer.ToInt(x); v != 0 || !ok {
			t.Errorf("%v as an int: %d %v", x, v, ok)
		}
		if integer.Sign(x) != 0 || integer.Format(x) != "0" || !equal(integer.Neg(x), api.Int{}) || integer.Compare(x, api.Int{}) != 0 {
			t.Errorf("%v does not count as 0", x)
		}
		if got := integer.Sub(x, minus(9)); !equal(got, plus(9)) {
			t.Errorf("%v + 9: %v", x, got)
		}
		if q, r, ok := integer.Div(minus(9), x); ok || !equal(q, api.Int{}) || !equal(r, api.Int{}) {
			t.Errorf("-9 by %v: %v %v %v", x, q, r, ok)
		}
	}
}

func TestResultsAreValid(t *testing.T) {
	for _, x := range all() {
		for _, y := range all() {
			for i, z := range results(x, y) {
				if isInvalid(z) || !integer.Valid(z) {
					t.Errorf("%v, %v: result %d is %v", x, y, i, z)
				}
			}
		}
	}
}

// P2.2

func TestInt(t *testing.T) {
	for _, x := range []struct {
		v    int
		want api.Int
	}{
		{0, api.Int{}}, {1, plus(1)}, {-1, minus(1)}, {5, plus(5)}, {-5, minus(5)}, {top, plus(top)}, {-top, minus(top)},
		{1 << 32, plus(0, 1)}, {-1 << 32, minus(0, 1)}, {1<<32 + 5, plus(5, 1)}, {-1<<32 - 5, minus(5, 1)},
		{math.MaxInt, plus(top, half-1)}, {math.MaxInt - 1, plus(top-1, half-1)},
		{math.MinInt, minus(0, half)}, {math.MinInt + 1, minus(top, half-1)},
	} {
		if got := integer.FromInt(x.v); !equal(got, x.want) {
			t.Errorf("%d: %v", x.v, got)
		}
		if v, ok := integer.ToInt(x.want); v != x.v || !ok {
			t.Errorf("%v: %d %v", x.want, v, ok)
		}
	}
}

func TestToIntOutside(t *testing.T) {
	for _, x := range []api.Int{
		plus(0, half), plus(1, half), plus(top, top), minus(1, half), minus(2, half), minus(top, top),
		plus(0, 0, 1), minus(0, 0, 1), plus(5, 0, 1), minus(5, 0, 1), minus(0, half, 1), plus(7, 0, 0, 1), minus(7, 0, 0, 1),
	} {
		if v, ok := integer.ToInt(x); v != 0 || ok {
			t.Errorf("%v: %d %v", x, v, ok)
		}
	}
	for _, x := range samples() {
		want := toBig(x)
		v, ok := integer.ToInt(x)
		if ok != want.IsInt64() || ok && int64(v) != want.Int64() || !ok && v != 0 {
			t.Errorf("%v: %d %v", x, v, ok)
		}
	}
}

func TestSignAndNeg(t *testing.T) {
	for _, x := range all() {
		v := toBig(x)
		if got := integer.Sign(x); got != v.Sign() {
			t.Errorf("sign of %v: %d", x, got)
		}
		same(t, "opposite", integer.Neg(x), new(big.Int).Neg(v))
		same(t, "opposite of the opposite", integer.Neg(integer.Neg(x)), v)
	}
	if got := integer.Neg(integer.FromInt(math.MinInt)); !equal(got, plus(0, half)) {
		t.Errorf("opposite of the least int: %v", got)
	}
	if got := integer.Neg(api.Int{}); !equal(got, api.Int{}) {
		t.Errorf("opposite of 0: %v", got)
	}
}

func TestCompare(t *testing.T) {
	for _, x := range all() {
		for _, y := range all() {
			if got, want := integer.Compare(x, y), toBig(x).Cmp(toBig(y)); got != want {
				t.Errorf("%v, %v: %d", x, y, got)
			}
		}
	}
	ascending := []api.Int{minus(0, 0, 1), minus(5, 1), minus(4, 1), minus(top), minus(2), minus(1), {}, plus(1), plus(2), plus(top), plus(4, 1), plus(5, 1), plus(0, 0, 1)}
	for i, x := range ascending {
		for j, y := range ascending {
			want := 0
			if i < j {
				want = -1
			} else if i > j {
				want = 1
			}
			if got := integer.Compare(x, y); got != want {
				t.Errorf("%v, %v: %d", x, y, got)
			}
		}
	}
}

// P2.3

func TestArithmetic(t *testing.T) {
	for _, x := range all() {
		for _, y := range all() {
			v, w := toBig(x), toBig(y)
			same(t, "sum", integer.Add(x, y), new(big.Int).Add(v, w))
			same(t, "difference", integer.Sub(x, y), new(big.Int).Sub(v, w))
			product := integer.Mul(x, y)
			same(t, "product", product, new(big.Int).Mul(v, w))
			if zero := v.Sign() == 0 || w.Sign() == 0; zero != (integer.Sign(product) == 0) {
				t.Errorf("%v times %v: %v", x, y, product)
			}
		}
	}
}

func TestSumExamples(t *testing.T) {
	for _, c := range []struct{ x, y, sum api.Int }{
		{plus(3), minus(5), minus(2)}, {minus(3), plus(5), plus(2)}, {minus(3), minus(5), minus(8)}, {plus(5), minus(3), plus(2)},
		{minus(5), plus(3), minus(2)}, {plus(5), minus(5), api.Int{}}, {minus(5), plus(5), api.Int{}}, {api.Int{}, minus(5), minus(5)},
		{minus(top, top), minus(1), minus(0, 0, 1)}, {minus(0, 0, 1), plus(1), minus(top, top)}, {plus(0, 1), minus(1, 1), minus(1)},
	} {
		if got := integer.Add(c.x, c.y); !equal(got, c.sum) {
			t.Errorf("%v + %v: %v", c.x, c.y, got)
		}
		if got := integer.Sub(c.sum, c.y); !equal(got, c.x) {
			t.Errorf("%v - %v: %v", c.sum, c.y, got)
		}
	}
}

func TestDiv(t *testing.T) {
	for _, x := range all() {
		for _, y := range all() {
			checkDiv(t, x, y)
		}
	}
	for v := -30; v <= 30; v++ {
		for w := -11; w <= 11; w++ {
			checkDiv(t, integer.FromInt(v), integer.FromInt(w))
		}
	}
}

// checkDiv uses that big.Int's QuoRem rounds to 0 and its DivMod leaves no negative remainder.
func checkDiv(t *testing.T, x, y api.Int) {
	t.Helper()
	q, r, ok := integer.Div(x, y)
	v, w := toBig(x), toBig(y)
	if w.Sign() == 0 {
		if ok || !equal(q, api.Int{}) || !equal(r, api.Int{}) {
			t.Errorf("%v by 0: %v %v %v", x, q, r, ok)
		}
		return
	}
	wantQ, wantR := new(big.Int).DivMod(v, w, new(big.Int))
	if !ok {
		t.Errorf("%v by %v: false", x, y)
	}
	same(t, "quotient", q, wantQ)
	same(t, "remainder", r, wantR)
}

func TestDivExamples(t *testing.T) {
	for _, c := range []struct{ x, y, q, r int }{
		{7, 2, 3, 1}, {-7, 2, -4, 1}, {7, -2, -3, 1}, {-7, -2, 4, 1}, {6, 3, 2, 0}, {-6, 3, -2, 0}, {6, -3, -2, 0}, {-6, -3, 2, 0},
		{1, 9, 0, 1}, {-1, 9, -1, 8}, {1, -9, 0, 1}, {-1, -9, 1, 8}, {0, 5, 0, 0}, {0, -5, 0, 0}, {-8, 9, -1, 1}, {-8, -9, 1, 1}, {-5, 5, -1, 0}, {-5, 1, -5, 0}, {-5, -1, 5, 0},
	} {
		q, r, ok := integer.Div(integer.FromInt(c.x), integer.FromInt(c.y))
		if !ok || !equal(q, integer.FromInt(c.q)) || !equal(r, integer.FromInt(c.r)) {
			t.Errorf("%d by %d: %v %v %v", c.x, c.y, q, r, ok)
		}
	}
	q, r, ok := integer.Div(minus(0, half), minus(1))
	if !ok || !equal(q, plus(0, half)) || !equal(r, api.Int{}) {
		t.Errorf("least int by -1: %v %v %v", q, r, ok)
	}
}

func TestGcd(t *testing.T) {
	for _, x := range all() {
		for _, y := range all() {
			got := integer.Gcd(x, y)
			v, w := new(big.Int).Abs(toBig(x)), new(big.Int).Abs(toBig(y))
			same(t, "divisor", api.Int{Mag: got}, new(big.Int).GCD(nil, nil, v, w))
			if !isInvalid(x) && !isInvalid(y) && !slices.Equal(got, natural.Gcd(x.Mag, y.Mag)) {
				t.Errorf("%v, %v: %v differs from natural's", x, y, got)
			}
		}
	}
	for _, c := range []struct{ x, y, want api.Int }{
		{minus(12), plus(18), plus(6)}, {plus(12), minus(18), plus(6)}, {minus(12), minus(18), plus(6)}, {minus(4), api.Int{}, plus(4)},
		{api.Int{}, minus(4), plus(4)}, {api.Int{}, api.Int{}, api.Int{}}, {minus(7), minus(9), plus(1)},
	} {
		if got := integer.Gcd(c.x, c.y); !slices.Equal(got, c.want.Mag) {
			t.Errorf("%v, %v: %v", c.x, c.y, got)
		}
	}
}

// P2.4

func TestFormat(t *testing.T) {
	for _, x := range all() {
		if got, want := integer.Format(x), toBig(x).String(); got != want {
			t.Errorf("%v: %s, not %s", x, got, want)
		}
	}
	for v, want := range map[int]string{0: "0", -1: "-1", 1: "1", -10: "-10", -1000000000: "-1000000000", math.MinInt: "-9223372036854775808", math.MaxInt: "9223372036854775807"} {
		if got := integer.Format(integer.FromInt(v)); got != want {
			t.Errorf("%d: %s", v, got)
		}
	}
}

func TestFormatBeyondMaxDigits(t *testing.T) {
	s := "-1" + strings.Repeat("0", api.MaxDigits-1)
	if got := integer.Format(integer.Mul(mustParse(t, s), plus(10))); got != s+"0" {
		t.Errorf("%d bytes", len(got))
	}
}

func TestParse(t *testing.T) {
	digits := strings.Repeat("9081726354", api.MaxDigits/10)
	for _, s := range []string{
		"0", "1", "-1", "10", "-10", "4294967295", "-4294967296", "9223372036854775808", "-9223372036854775808", "-9223372036854775809",
		digits, "-" + digits, digits[:57], "-" + digits[:57], "-" + strings.Repeat("9", api.MaxDigits), "-1" + strings.Repeat("0", api.MaxDigits-1),
	} {
		want, _ := new(big.Int).SetString(s, 10)
		x := mustParse(t, s)
		same(t, s, x, want)
		if got := integer.Format(x); got != s {
			t.Errorf("%.40s is written as %.40s", s, got)
		}
	}
	for _, x := range samples() {
		if got := mustParse(t, integer.Format(x)); !equal(got, x) {
			t.Errorf("%v is read as %v", x, got)
		}
	}
}

func mustParse(t *testing.T, s string) api.Int {
	t.Helper()
	x, ok := integer.Parse(s)
	if !ok {
		t.Fatalf("%.40s is not read", s)
	}
	return x
}

func TestParseRejects(t *testing.T) {
	for _, s := range []string{
		"", "-", "--", "-0", "+0", "+1", "+", "--1", "-+1", "+-1", "---1", "00", "01", "-00", "-01", "-0000000000", "-0123456789012345",
		" ", " 1", "1 ", " -1", "- 1", "-1 ", "-1\n", "1-", "-1-", "1-1", "-1_000", "-0x10", "0x10", "1e3", "1.0", "-1.5", "1/2", "-a", "ten",
		"\u22121", "\u20131", "-\u0661", "-1\u0662", "\xff", "-\xff", "\x00", "-\x00", "-1\x00", "-12345678901234567890x", "-x12345678901234567890",
		strings.Repeat("9", api.MaxDigits+1), "-" + strings.Repeat("9", api.MaxDigits+1), "-1" + strings.Repeat("0", api.MaxDigits), strings.Repeat("1", 3*api.MaxDigits),
		"-0" + strings.Repeat("1", api.MaxDigits-1), "-" + strings.Repeat("0", api.MaxDigits), strings.Repeat("-", api.MaxDigits),
	} {
		checkRejected(t, s)
	}
	for c := range 256 {
		other := string([]byte{byte(c)})
		if c >= '0' && c <= '9' {
			continue
		}
		checkRejected(t, other)
		checkRejected(t, "-"+other+"12345678901")
		checkRejected(t, "-12345"+other+"678901")
		checkRejected(t, "-12345678901"+other)
		if other != "-" {
			checkRejected(t, other+"12345678901")
		}
	}
}

func checkRejected(t *testing.T, s string) {
	t.Helper()
	if x, ok := integer.Parse(s); ok || x.Neg || len(x.Mag) != 0 {
		t.Errorf("%.40q is read as %v, %v", s, x, ok)
	}
}
