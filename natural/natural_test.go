package natural_test

import (
	"math"
	"math/big"
	"slices"
	"strconv"
	"strings"
	"testing"

	"robuststats/api"
	"robuststats/natural"
)

// P1.1

func TestValid(t *testing.T) {
	for _, a := range append(samples(), []uint32{}, []uint32{0, 0, 7}) {
		if !natural.Valid(a) {
			t.Errorf("%v is not valid", a)
		}
	}
	for _, a := range invalid() {
		if natural.Valid(a) {
			t.Errorf("%v is valid", a)
		}
	}
}

func TestInvalidCountsAsZero(t *testing.T) {
	others := append(invalid(), nil, []uint32{1}, []uint32{7}, []uint32{3, 4}, []uint32{1, 2, 3, 4})
	for _, a := range invalid() {
		for _, b := range others {
			other := b
			if !natural.Valid(b) {
				other = nil
			}
			if got, want := answers(a, b), answers(nil, other); !slices.Equal(got, want) {
				t.Errorf("%v, %v: %v, not %v", a, b, got, want)
			}
			if got, want := answers(b, a), answers(other, nil); !slices.Equal(got, want) {
				t.Errorf("%v, %v: %v, not %v", b, a, got, want)
			}
		}
		if v, ok := natural.Uint(a); v != 0 || !ok {
			t.Errorf("Uint of %v: %d %v", a, v, ok)
		}
		if got := natural.Power(a, 0); !slices.Equal(got, []uint32{1}) {
			t.Errorf("%v to the power of 0: %v", a, got)
		}
		if got := natural.Add(a, []uint32{9}); !slices.Equal(got, []uint32{9}) {
			t.Errorf("%v + 9: %v", a, got)
		}
		if q, r, ok := natural.Div([]uint32{9}, a); len(q) != 0 || len(r) != 0 || ok {
			t.Errorf("9 by %v: %v %v %v", a, q, r, ok)
		}
	}
}

func TestResultsAreValid(t *testing.T) {
	list := append(samples(), invalid()...)
	for _, a := range list {
		for _, b := range list {
			for i, result := range lists(a, b) {
				if !natural.Valid(result) {
					t.Errorf("%v, %v: result %d is %v", a, b, i, result)
				}
			}
		}
	}
}

// P1.2

func TestFromUint(t *testing.T) {
	for _, x := range []struct {
		v    uint64
		want []uint32
	}{{0, nil}, {1, []uint32{1}}, {top, []uint32{top}}, {1 << 32, []uint32{0, 1}}, {1<<32 + 5, []uint32{5, 1}}, {math.MaxUint64, []uint32{top, top}}, {math.MaxUint64 - top, []uint32{0, top}}} {
		if got := natural.FromUint(x.v); !slices.Equal(got, x.want) {
			t.Errorf("%d: %v", x.v, got)
		}
		if v, ok := natural.Uint(x.want); v != x.v || !ok {
			t.Errorf("%v: %d %v", x.want, v, ok)
		}
	}
}

func TestUintAboveBits(t *testing.T) {
	for _, a := range [][]uint32{{0, 0, 1}, {1, 1, 1}, {top, top, top}, {7, 0, 0, 1}} {
		if v, ok := natural.Uint(a); v != 0 || ok {
			t.Errorf("%v: %d %v", a, v, ok)
		}
	}
}

func TestCompare(t *testing.T) {
	for _, a := range samples() {
		for _, b := range samples() {
			if got, want := natural.Compare(a, b), toBig(a).Cmp(toBig(b)); got != want {
				t.Errorf("%v, %v: %d", a, b, got)
			}
		}
	}
	for _, x := range []struct {
		a, b []uint32
		want int
	}{{nil, nil, 0}, {nil, []uint32{1}, -1}, {[]uint32{1}, nil, 1}, {[]uint32{top}, []uint32{0, 1}, -1}, {[]uint32{9, 1, 5}, []uint32{0, 2, 5}, -1}, {[]uint32{0, 2, 5}, []uint32{9, 1, 5}, 1}, {[]uint32{4, 2, 5}, []uint32{3, 2, 5}, 1}} {
		if got := natural.Compare(x.a, x.b); got != x.want {
			t.Errorf("%v, %v: %d", x.a, x.b, got)
		}
	}
}

// P1.3

func TestArithmetic(t *testing.T) {
	for _, a := range samples() {
		for _, b := range samples() {
			x, y := toBig(a), toBig(b)
			same(t, "sum", natural.Add(a, b), new(big.Int).Add(x, y))
			same(t, "product", natural.Mul(a, b), new(big.Int).Mul(x, y))
			checkSub(t, a, b)
			checkDiv(t, a, b)
		}
	}
}

func checkSub(t *testing.T, a, b []uint32) {
	t.Helper()
	want := new(big.Int).Sub(toBig(a), toBig(b))
	d, ok := natural.Sub(a, b)
	if ok != (want.Sign() >= 0) {
		t.Errorf("%v - %v: %v", a, b, ok)
	}
	if ok {
		same(t, "difference", d, want)
	} else if len(d) != 0 {
		t.Errorf("%v - %v: %v", a, b, d)
	}
}

func checkDiv(t *testing.T, a, b []uint32) {
	t.Helper()
	q, r, ok := natural.Div(a, b)
	if len(b) == 0 {
		if ok || len(q) != 0 || len(r) != 0 {
			t.Errorf("%v by 0: %v %v %v", a, q, r, ok)
		}
		return
	}
	wantQ, wantR := new(big.Int).QuoRem(toBig(a), toBig(b), new(big.Int))
	if !ok {
		t.Errorf("%v by %v: false", a, b)
	}
	same(t, "quotient", q, wantQ)
	same(t, "remainder", r, wantR)
}

func TestSumExamples(t *testing.T) {
	if got := natural.Add([]uint32{top, top, top}, []uint32{1}); !slices.Equal(got, []uint32{0, 0, 0, 1}) {
		t.Errorf("carry: %v", got)
	}
	if got, ok := natural.Sub([]uint32{0, 0, 0, 1}, []uint32{1}); !ok || !slices.Equal(got, []uint32{top, top, top}) {
		t.Errorf("borrow: %v %v", got, ok)
	}
	if got, ok := natural.Sub([]uint32{4}, []uint32{5}); ok || len(got) != 0 {
		t.Errorf("4 - 5: %v %v", got, ok)
	}
	if got, ok := natural.Sub([]uint32{5}, []uint32{5}); !ok || len(got) != 0 {
		t.Errorf("5 - 5: %v %v", got, ok)
	}
	if got := natural.Mul([]uint32{top, top}, []uint32{top, top}); !slices.Equal(got, []uint32{1, 0, top - 1, top}) {
		t.Errorf("square: %v", got)
	}
	if q, r, ok := natural.Div([]uint32{7}, []uint32{2}); !ok || !slices.Equal(q, []uint32{3}) || !slices.Equal(r, []uint32{1}) {
		t.Errorf("7 by 2: %v %v %v", q, r, ok)
	}
	if q, r, ok := natural.Div(nil, nil); ok || len(q) != 0 || len(r) != 0 {
		t.Errorf("0 by 0: %v %v %v", q, r, ok)
	}
}

// TestDivEstimates has quotients whose limbs are estimated too high, by 1 and by 2, and ones that are all maxima.
func TestDivEstimates(t *testing.T) {
	for _, x := range [][2][]uint32{
		{{0, 0, 1 << 31, 1<<31 - 1}, {1, 0, 1 << 31}},
		{{0, top - 1, 1 << 31}, {top, 1 << 31}},
		{{3, 0, 1 << 31}, {1, 0, 1 << 29}},
		{{0, 0, 0, 1}, {top, top}},
		{{0, 0, 0, 0, 1}, {1, 1}},
		{{top - 1, top, top, top}, {top, top}},
		{{0, 0, 1}, {top, 1}},
		{{0, 0, 0, 1 << 31}, {0, top, 1 << 31}},
	} {
		checkDiv(t, x[0], x[1])
	}
	g := generator(7)
	for range 3000 {
		a, b := g.number(int(g.next()%9)), g.number(1+int(g.next()%5))
		checkDiv(t, a, b)
		// A remainder just below the divisor makes the estimates as bad as they get.
		product := natural.Mul(a, b)
		checkDiv(t, product, b)
		if less, ok := natural.Sub(product, []uint32{1}); ok {
			checkDiv(t, less, b)
		}
	}
}

func TestLaws(t *testing.T) {
	g := generator(11)
	for range 300 {
		a, b, c := g.number(int(g.next()%6)), g.number(int(g.next()%6)), g.number(int(g.next()%6))
		if natural.Compare(natural.Add(a, b), natural.Add(b, a)) != 0 || natural.Compare(natural.Mul(a, b), natural.Mul(b, a)) != 0 {
			t.Errorf("not commutative: %v %v", a, b)
		}
		if natural.Compare(natural.Add(a, natural.Add(b, c)), natural.Add(natural.Add(a, b), c)) != 0 || natural.Compare(natural.Mul(a, natural.Mul(b, c)), natural.Mul(natural.Mul(a, b), c)) != 0 {
			t.Errorf("not associative: %v %v %v", a, b, c)
		}
		if natural.Compare(natural.Mul(a, natural.Add(b, c)), natural.Add(natural.Mul(a, b), natural.Mul(a, c))) != 0 {
			t.Errorf("not distributive: %v %v %v", a, b, c)
		}
	}
}

// P1.4

func checkGcd(t *testing.T, a, b []uint32) {
	t.Helper()
	same(t, "divisor", natural.Gcd(a, b), new(big.Int).GCD(nil, nil, toBig(a), toBig(b)))
}

func TestGcd(t *testing.T) {
	for _, a := range samples() {
		for _, b := range samples() {
			checkGcd(t, a, b)
		}
		same(t, "divisor with 0", natural.Gcd(a, nil), toBig(a))
		same(t, "divisor with 0", natural.Gcd(nil, a), toBig(a))
	}
	if got := natural.Gcd(nil, nil); len(got) != 0 {
		t.Errorf("0, 0: %v", got)
	}
	if got := natural.Gcd([]uint32{12}, []uint32{18}); !slices.Equal(got, []uint32{6}) {
		t.Errorf("12, 18: %v", got)
	}
}

func TestGcdCommonFactor(t *testing.T) {
	g := generator(13)
	for range 1500 {
		factor := g.number(int(g.next() % 12))
		a, b := g.number(int(g.next()%16)), g.number(int(g.next()%16))
		checkGcd(t, natural.Mul(a, factor), natural.Mul(b, factor))
	}
}

// TestGcdLongSequences has the numbers with the longest sequences of divisions, and ones that agree in their highest bits.
func TestGcdLongSequences(t *testing.T) {
	a, b := []uint32{1}, []uint32{1}
	for range 900 {
		a, b = b, natural.Add(a, b)
		checkGcd(t, a, b)
		checkGcd(t, natural.Mul(a, []uint32{6, 0, 5}), natural.Mul(b, []uint32{6, 0, 5}))
	}
	g := generator(17)
	for range 300 {
		x := g.number(5)
		y := natural.Add(x, g.number(1+int(g.next()%4)))
		checkGcd(t, x, y)
		checkGcd(t, y, x)
		checkGcd(t, x, x)
	}
}

func TestRoot(t *testing.T) {
	for a := range uint64(3000) {
		r, _ := natural.Uint(natural.Root(natural.FromUint(a)))
		if r*r > a || (r+1)*(r+1) <= a {
			t.Errorf("root of %d: %d", a, r)
		}
	}
	for _, a := range samples() {
		same(t, "root", natural.Root(a), new(big.Int).Sqrt(toBig(a)))
		square := natural.Mul(a, a)
		same(t, "root of a square", natural.Root(square), toBig(a))
		same(t, "root above a square", natural.Root(natural.Add(square, a)), toBig(a))
		next := natural.Add(natural.Add(square, a), natural.Add(a, []uint32{1}))
		same(t, "root of the next square", natural.Root(next), new(big.Int).Add(toBig(a), big.NewInt(1)))
		if less, ok := natural.Sub(square, []uint32{1}); ok {
			same(t, "root below a square", natural.Root(less), new(big.Int).Sub(toBig(a), big.NewInt(1)))
		}
	}
	for k := range 200 {
		a := new(big.Int).Lsh(big.NewInt(1), uint(k))
		same(t, "root of a power of 2", natural.Root(fromBig(a)), new(big.Int).Sqrt(a))
	}
}

func TestPower(t *testing.T) {
	for _, a := range [][]uint32{nil, {1}, {2}, {3}, {10}, {top}, {0, 1}, {5, 6, 7}} {
		for k := range 65 {
			same(t, "power", natural.Power(a, k), new(big.Int).Exp(toBig(a), big.NewInt(int64(k)), nil))
		}
		for _, k := range []int{-1, -2, -63, -64, 65, 66, 127, 128, math.MinInt, math.MaxInt} {
			if got := natural.Power(a, k); len(got) != 0 {
				t.Errorf("%v to the power of %d: %v", a, k, got)
			}
		}
	}
}

// P1.5

func TestFormat(t *testing.T) {
	for _, a := range samples() {
		if got, want := natural.Format(a), toBig(a).String(); got != want {
			t.Errorf("%v: %s, not %s", a, got, want)
		}
	}
	ten := big.NewInt(10)
	for k := range 60 {
		for _, shift := range []int64{-1, 0, 1} {
			v := new(big.Int).Exp(ten, big.NewInt(int64(k)), nil)
			v.Add(v, big.NewInt(shift))
			if got := natural.Format(fromBig(v)); got != v.String() {
				t.Errorf("%s: %s", v, got)
			}
		}
	}
	if got := natural.Format([]uint32{}); got != "0" {
		t.Errorf("0: %q", got)
	}
}

func TestFormatBeyondMaxDigits(t *testing.T) {
	a := mustParse(t, "1"+strings.Repeat("0", api.MaxDigits-1))
	if got := natural.Format(natural.Mul(a, []uint32{10})); got != "1"+strings.Repeat("0", api.MaxDigits) {
		t.Errorf("%d digits", len(got))
	}
}

func TestParse(t *testing.T) {
	digits := strings.Repeat("9081726354", api.MaxDigits/10)
	for n := 1; n <= 100; n++ {
		checkParse(t, digits[:n])
		checkParse(t, "1"+strings.Repeat("0", n))
		checkParse(t, strings.Repeat("9", n))
	}
	for _, s := range []string{"0", "5", "10", "4294967295", "4294967296", "18446744073709551615", "18446744073709551616", digits[2:], digits, strings.Repeat("9", api.MaxDigits), "1" + strings.Repeat("0", api.MaxDigits-1)} {
		checkParse(t, s)
	}
	for _, a := range samples() {
		if got := mustParse(t, natural.Format(a)); !slices.Equal(got, a) {
			t.Errorf("%v is read as %v", a, got)
		}
	}
}

func checkParse(t *testing.T, s string) {
	t.Helper()
	want, _ := new(big.Int).SetString(s, 10)
	same(t, s, mustParse(t, s), want)
	if got := natural.Format(mustParse(t, s)); got != s {
		t.Errorf("%.40s is written as %.40s", s, got)
	}
}

func TestParseRejects(t *testing.T) {
	for _, s := range []string{
		"", "00", "01", "007", "0000000000", "0123456789012345", "-1", "-0", "+1", " 1", "1 ", "1\n", "1_000", "0x10", "0b1", "1e3", "1.0", ".", "/", "a", "ten",
		"12345678901234567890x", "x12345678901234567890", "123456789x123456789", "\u0661", "1\u0662", "\xff", "\x00", "1\x00",
		strings.Repeat("9", api.MaxDigits+1), "1" + strings.Repeat("0", api.MaxDigits), strings.Repeat("1", 3*api.MaxDigits), strings.Repeat("0", api.MaxDigits), "0" + strings.Repeat("1", api.MaxDigits),
	} {
		checkRejected(t, s)
	}
	for c := range 256 {
		if c < '0' || c > '9' {
			other := string([]byte{byte(c)})
			checkRejected(t, other)
			checkRejected(t, other+"12345678901")
			checkRejected(t, "12345"+other+"678901")
			checkRejected(t, "12345678901"+other)
		}
	}
}

func checkRejected(t *testing.T, s string) {
	t.Helper()
	if a, ok := natural.Parse(s); ok || len(a) != 0 {
		t.Errorf("%s is read as %v, %v", strconv.Quote(s), a, ok)
	}
}
