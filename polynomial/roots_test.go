package polynomial_test

import (
	"math"
	"math/big"
	"math/rand/v2"
	"strconv"
	"strings"
	"testing"

	"robuststats/api"
	"robuststats/interval"
	"robuststats/polynomial"
	"robuststats/rational"
)

// P5.4

func TestCount(t *testing.T) {
	for _, c := range curves(t) {
		for _, x := range spans(t) {
			if got, want := polynomial.Count(c.p, x.Lo, x.Hi), c.count(x); got != want {
				t.Errorf("%s in %s: %d, not %d", show(c.p), showInterval(x), got, want)
			}
			if got := polynomial.Count(append(c.p[:len(c.p):len(c.p)], api.Rat{}, invalid()[0]), x.Lo, x.Hi); got != c.count(x) {
				t.Errorf("%s with zeros in %s: %d", show(c.p), showInterval(x), got)
			}
			if isPoint(x) {
				continue
			}
			if got := polynomial.Count(c.p, x.Hi, x.Lo); got != 0 {
				t.Errorf("%s from %s to %s: %d", show(c.p), rational.Format(x.Hi), rational.Format(x.Lo), got)
			}
		}
	}
}

func TestCountExamples(t *testing.T) {
	square := "1 -2 1"
	for _, x := range []struct {
		p, lo, hi string
		want      int
	}{
		{square, "0", "1", 1}, {square, "1", "2", 0}, {square, "0", "2", 1}, {square, "1", "1", 0}, {square, "2", "0", 0}, {"-2 0 1", "0", "2", 1}, {"-2 0 1", "-2", "2", 2}, {"0 1", "-1", "0", 1}, {"0 1", "0", "1", 0}, {"0 0 0 1", "-1", "0", 1}, {"0 0 0 1", "0", "1", 0}, {"0 -1 1", "0", "1", 1}, {"0 -1 1", "-1", "1", 2},
		{"1 0 1", "-5", "5", 0}, {"7", "-5", "5", 0}, {"7", "5", "-5", 0}, {"-1 1", "-1e40", "1e40", 1}, {"-1 1e40", "0", "1", 1}, {"-1e40 1", "0", "1e39", 0}, {"-1e40 1", "0", "1e40", 1}, {"-1e40 1", "1e40", "2e40", 0}, {"", "0", "1", -1}, {"0 0", "0", "1", -1}, {"0", "1", "0", -1}, {"0", "1", "1", -1},
	} {
		if got := polynomial.Count(poly(t, x.p), number(t, x.lo), number(t, x.hi)); got != x.want {
			t.Errorf("%s from %s to %s: %d", x.p, x.lo, x.hi, got)
		}
	}
}

func TestCountOfInvalid(t *testing.T) {
	for _, bad := range invalid() {
		one, five := number(t, "1"), number(t, "5")
		// x^2 - 4, and the same with 0 in the place of -4.
		p, q := poly(t, "-4 0 1"), []api.Rat{bad, bad, one}
		for _, x := range []struct {
			p      []api.Rat
			lo, hi api.Rat
			want   int
		}{{p, bad, five, 1}, {p, rational.Neg(five), bad, 1}, {p, bad, bad, 0}, {p, five, bad, 0}, {q, rational.Neg(five), five, 1}, {q, bad, five, 0}, {q, rational.Neg(five), bad, 1}, {[]api.Rat{bad}, bad, five, -1}, {[]api.Rat{bad, bad}, five, bad, -1}} {
			if got := polynomial.Count(x.p, x.lo, x.hi); got != x.want {
				t.Errorf("%v from %v to %v: %d", x.p, x.lo, x.hi, got)
			}
		}
	}
}

// TestCountOfHighDegree has degrees above MaxDegree, which bounds Isolate and Refine only.
func TestCountOfHighDegree(t *testing.T) {
	c := constant(t, "-1/9")
	for i := range 15 {
		c = c.times(t, strconv.Itoa(i-7), strconv.Itoa(2*(i%2)), 1).times(t, "1/2", "-1", i%3)
	}
	if polynomial.Degree(c.p) <= 2*api.MaxDegree {
		t.Fatalf("degree %d", polynomial.Degree(c.p))
	}
	for _, x := range spans(t) {
		if got := polynomial.Count(c.p, x.Lo, x.Hi); got != c.count(x) {
			t.Errorf("in %s: %d, not %d", showInterval(x), got, c.count(x))
		}
	}
}

// P5.5

// checkIsolated checks the properties of P5.5.
func checkIsolated(t *testing.T, c curve, x api.Interval) {
	t.Helper()
	list, e := polynomial.Isolate(c.p, x.Lo, x.Hi)
	if e != api.OK || len(list) != c.count(x) {
		t.Errorf("%s in %s: %d intervals %v", show(c.p), showInterval(x), len(list), e)
		return
	}
	before := x.Lo
	for _, a := range list {
		if !c.holds(a) || rational.Compare(before, a.Lo) > 0 || rational.Compare(a.Hi, x.Hi) > 0 {
			t.Errorf("%s in %s: %s", show(c.p), showInterval(x), showInterval(a))
		}
		// The root of a point counts only if it is greater than Lo.
		if isPoint(a) && rational.Compare(a.Lo, before) == 0 {
			t.Errorf("%s in %s: %s again", show(c.p), showInterval(x), showInterval(a))
		}
		before = a.Hi
	}
}

func TestIsolate(t *testing.T) {
	for _, c := range curves(t) {
		for _, x := range spans(t) {
			checkIsolated(t, c, x)
		}
	}
}

func TestIsolateDrawn(t *testing.T) {
	random := rand.New(rand.NewPCG(5, 5))
	for range 200 {
		c := constant(t, "2/3")
		used := map[string]bool{}
		for range 1 + random.IntN(5) {
			base := big.NewRat(random.Int64N(41)-20, 1+random.Int64N(4)).RatString()
			under := []string{"0", "0", "2", "-1", "3/4", "5/9"}[random.IntN(6)]
			if used[base] {
				continue
			}
			used[base] = true
			c = c.times(t, base, under, 1+random.IntN(2))
		}
		lo, hi := big.NewRat(random.Int64N(41)-20, 1+random.Int64N(4)), big.NewRat(random.Int64N(41)-20, 1+random.Int64N(4))
		if lo.Cmp(hi) > 0 {
			lo, hi = hi, lo
		}
		checkIsolated(t, c, api.Interval{Lo: fromBig(lo), Hi: fromBig(hi)})
		checkIsolated(t, c, pair(t, "-100", "100"))
	}
}

// TestIsolateMany has polynomials with all roots between close limits, Chebyshev's.
func TestIsolateMany(t *testing.T) {
	before, p := poly(t, "1"), poly(t, "0 1")
	for n := 2; n <= api.MaxDegree; n++ {
		before, p = p, polynomial.Sub(polynomial.Mul(poly(t, "0 2"), p), before)
		list, e := polynomial.Isolate(p, number(t, "-1"), number(t, "1"))
		if e != api.OK || len(list) != n {
			t.Errorf("degree %d: %d intervals %v", n, len(list), e)
		}
		for i, a := range list {
			want := math.Cos((float64(n-i) - 0.5) * math.Pi / float64(n))
			small, err := polynomial.Refine(p, a, 40)
			if got, _ := toBig(small.Lo).Float64(); err != api.OK || math.Abs(got-want) > 1e-9 {
				t.Errorf("root %d of degree %d: %g, not %g", i, n, got, want)
			}
		}
	}
}

// TestIsolateLong has roots and ends with hundreds of digits.
func TestIsolateLong(t *testing.T) {
	huge := "1" + strings.Repeat("0", 300)
	c := constant(t, "1/7").times(t, huge, "0", 1).times(t, "-1/3", "1e-39", 1).times(t, "1/"+huge, "0", 2).times(t, "-1/"+huge, "0", 1)
	for _, s := range [][2]string{{"-" + huge + "00/7", huge + "000/3"}, {"0", huge}, {"1/" + huge, huge}, {"-1/" + huge, "1/" + huge}, {"0", huge + "/9"}, {"-" + huge, "1"}, {huge, huge + "0"}} {
		x := pair(t, s[0], s[1])
		checkIsolated(t, c, x)
		if got := polynomial.Count(c.p, x.Lo, x.Hi); got != c.count(x) {
			t.Errorf("%d roots, not %d", got, c.count(x))
		}
	}
	list, _ := polynomial.Isolate(c.p, number(t, "-1"), number(t, huge))
	for _, a := range list {
		checkRefined(t, c, a, api.MaxBits)
	}
}

func TestIsolateExamples(t *testing.T) {
	for _, x := range []struct {
		p, lo, hi string
		want      int
	}{
		{"24 -50 35 -10 1", "0", "10", 4}, {"-2 0 1", "-2", "2", 2}, {"2 0 1", "-2", "2", 0}, {"7", "-2", "2", 0}, {"-1 1", "1", "1", 0}, {"-1 1", "1", "2", 0}, {"-1 1", "0", "1", 1}, {"1 -2 1", "0", "1", 1}, {"1 -2 1", "1", "3", 0}, {"0 -1 1", "0", "1", 1}, {"1 -1999 999000", "0", "1", 2}, {"-2 0 1", "2", "3", 0}, {"-2 0 1 0 0", "-1", "3", 1},
	} {
		list, e := polynomial.Isolate(poly(t, x.p), number(t, x.lo), number(t, x.hi))
		if e != api.OK || len(list) != x.want {
			t.Errorf("%s from %s to %s: %v %v", x.p, x.lo, x.hi, list, e)
		}
	}
}

// high is a polynomial x^n - 1.
func high(n int) []api.Rat {
	p := make([]api.Rat, n+1)
	p[0], p[n] = rational.FromInt(-1), rational.FromInt(1)
	return p
}

func TestIsolateErrors(t *testing.T) {
	top := high(api.MaxDegree)
	for _, x := range []struct {
		p      []api.Rat
		lo, hi string
		want   api.Errno
	}{
		{nil, "2", "1", api.ErrForm}, {poly(t, "0 0"), "1", "2", api.ErrForm}, {poly(t, "0"), "1", "1", api.ErrForm}, {invalid(), "1", "2", api.ErrForm}, {make([]api.Rat, api.MaxDegree+9), "2", "1", api.ErrForm},
		{high(api.MaxDegree + 1), "2", "1", api.ErrLimit}, {high(api.MaxDegree + 1), "0", "2", api.ErrLimit}, {high(api.MaxDegree + 40), "1", "1", api.ErrLimit},
		{poly(t, "-1 1"), "2", "1", api.ErrRange}, {poly(t, "-1 1"), "0", "-1/1000000000000", api.ErrRange}, {poly(t, "5"), "1", "0", api.ErrRange}, {top, "3", "-3", api.ErrRange},
		{top, "-3", "3", api.OK}, {append(top, invalid()...), "-3", "3", api.OK}, {append(top, make([]api.Rat, 50)...), "-3", "3", api.OK}, {poly(t, "5"), "1", "1", api.OK},
	} {
		list, e := polynomial.Isolate(x.p, number(t, x.lo), number(t, x.hi))
		if e != x.want || e != api.OK && len(list) != 0 || len(x.p) > api.MaxDegree && e == api.OK && len(list) != 2 {
			t.Errorf("%s from %s to %s: %v %v", show(x.p), x.lo, x.hi, list, e)
		}
	}
}

func TestIsolateOfInvalid(t *testing.T) {
	for _, bad := range invalid() {
		five := number(t, "5")
		for _, x := range []struct {
			p      string
			lo, hi api.Rat
			want   int
			e      api.Errno
		}{{"-4 0 1", bad, five, 1, api.OK}, {"-4 0 1", rational.Neg(five), bad, 1, api.OK}, {"-4 0 1", bad, bad, 0, api.OK}, {"-4 0 1", five, bad, 0, api.ErrRange}, {"-4 0 1", bad, rational.Neg(five), 0, api.ErrRange}, {"0 1", rational.Neg(five), bad, 1, api.OK}, {"0 1", bad, five, 0, api.OK}} {
			list, e := polynomial.Isolate(poly(t, x.p), x.lo, x.hi)
			if e != x.e || len(list) != x.want {
				t.Errorf("%s from %v to %v: %v %v", x.p, x.lo, x.hi, list, e)
			}
			for _, a := range list {
				if !interval.Valid(a) || rational.Compare(x.lo, a.Lo) > 0 || rational.Compare(a.Hi, x.hi) > 0 {
					t.Errorf("%s from %v to %v: %v", x.p, x.lo, x.hi, a)
				}
			}
		}
	}
}

// P5.6

// checkRefined checks the properties of P5.6 for an interval as Isolate returns them.
func checkRefined(t *testing.T, c curve, x api.Interval, bits int) {
	t.Helper()
	got, e := polynomial.Refine(c.p, x, bits)
	if e != api.OK || !interval.Within(got, x) || !c.holds(got) {
		t.Errorf("%s in %s with %d bits: %s %v", show(c.p), showInterval(x), bits, showInterval(got), e)
	}
	// Without the equality of Lo, a point could be the root at Lo, which is not that of x.
	if !isPoint(x) && isPoint(got) && rational.Compare(got.Lo, x.Lo) == 0 {
		t.Errorf("%s in %s with %d bits: %s is another root", show(c.p), showInterval(x), bits, showInterval(got))
	}
	most := new(big.Rat).SetFrac(big.NewInt(1), new(big.Int).Lsh(big.NewInt(1), uint(bits)))
	if toBig(interval.Width(got)).Cmp(most) > 0 {
		t.Errorf("%s in %s with %d bits: %s is too wide", show(c.p), showInterval(x), bits, showInterval(got))
	}
}

func TestRefine(t *testing.T) {
	for i, c := range curves(t) {
		list, _ := polynomial.Isolate(c.p, number(t, "-1e31"), number(t, "1e32"))
		for j, a := range list {
			checkRefined(t, c, a, 0)
			checkRefined(t, c, a, (7*i+j)%api.MaxBits)
			checkRefined(t, c, a, api.MaxBits)
		}
	}
}

// TestRefineOther has intervals that Isolate could have returned: wide ones, ones whose Lo is another root, whose Hi is the root, and points.
func TestRefineOther(t *testing.T) {
	tried := 0
	for _, c := range curves(t) {
		for _, x := range spans(t) {
			if !c.holds(x) {
				if got, e := polynomial.Refine(c.p, x, 4); e != api.ErrForm || !isZero(got) {
					t.Errorf("%s in %s: %v %v", show(c.p), showInterval(x), got, e)
				}
				continue
			}
			tried++
			for _, bits := range []int{0, 1, 13, api.MaxBits} {
				checkRefined(t, c, x, bits)
			}
		}
	}
	if tried < 20 {
		t.Errorf("only %d intervals", tried)
	}
}

func TestRefineExamples(t *testing.T) {
	for _, x := range []struct{ p, lo, hi, want string }{
		{"-2 0 1", "0", "2", "1.414213562373095048801688724210"}, {"-2 0 1", "-2", "0", "-1.414213562373095048801688724210"}, {"-2 0 1", "1", "1000000", "1.414213562373095048801688724210"}, {"-1 -1 1", "0", "5", "1.618033988749894848204586834366"}, {"-5 -2 0 1", "2", "3", "2.094551481542326591482386540579"},
		{"0 -3 0 1", "0", "2", "1.732050807568877293527446341506"}, {"9 0 -6 0 1", "0", "100", "1.732050807568877293527446341506"}, {"-1 3", "0", "1", "0.333333333333333333333333333333"},
	} {
		got, e := polynomial.Refine(poly(t, x.p), pair(t, x.lo, x.hi), api.MaxBits)
		if lo, hi := rational.Decimal(got.Lo, 30), rational.Decimal(got.Hi, 30); e != api.OK || lo != x.want || hi != x.want {
			t.Errorf("%s in [%s, %s]: %s %s %v", x.p, x.lo, x.hi, lo, hi, e)
		}
	}
	for _, x := range [][4]string{{"9 -6 1", "3", "3", "[3, 3]"}, {"0 1", "0", "0", "[0, 0]"}, {"-1/3 1", "1/3", "1/3", "[1/3, 1/3]"}} {
		for _, bits := range []int{0, 3, api.MaxBits} {
			got, e := polynomial.Refine(poly(t, x[0]), pair(t, x[1], x[2]), bits)
			if e != api.OK || showInterval(got) != x[3] {
				t.Errorf("%v with %d bits: %s %v", x, bits, showInterval(got), e)
			}
		}
	}
}

func TestRefineErrors(t *testing.T) {
	p, long := poly(t, "-2 0 1"), high(api.MaxDegree+1)
	for _, x := range []struct {
		p      []api.Rat
		lo, hi string
		bits   int
		want   api.Errno
	}{
		{nil, "0", "1", -1, api.ErrForm}, {poly(t, "0 0"), "0", "1", 5, api.ErrForm}, {invalid(), "0", "0", 5, api.ErrForm}, {p, "-2", "2", -1, api.ErrForm}, {p, "2", "3", 5, api.ErrForm}, {p, "1", "1", 5, api.ErrForm}, {p, "2", "0", 5, api.ErrForm}, {poly(t, "0 1"), "1", "-1", 5, api.ErrForm}, {poly(t, "0 1"), "0", "1", 5, api.ErrForm}, {poly(t, "7"), "0", "1", 5, api.ErrForm}, {poly(t, "7"), "0", "0", 5, api.ErrForm}, {integers(t, "1", 3).p, "0", "3", 5, api.ErrForm}, {integers(t, "1", 3).p, "1", "3", 5, api.ErrForm},
		{long, "5", "6", -1, api.ErrForm}, {long, "2", "0", -1, api.ErrForm}, {long, "2", "2", 129, api.ErrForm}, {long, "0", "2", -1, api.ErrLimit}, {long, "0", "2", 5, api.ErrLimit}, {long, "1", "1", 5, api.ErrLimit}, {high(60), "0", "2", 500, api.ErrLimit}, {high(60), "-2", "2", 5, api.ErrForm},
		{p, "0", "2", -1, api.ErrRange}, {p, "0", "2", 129, api.ErrRange}, {p, "0", "2", math.MinInt, api.ErrRange}, {p, "0", "2", math.MaxInt, api.ErrRange}, {poly(t, "-1 1"), "1", "1", -1, api.ErrRange}, {poly(t, "-1 1"), "1", "1", 129, api.ErrRange},
		{p, "0", "2", 0, api.OK}, {p, "0", "2", 128, api.OK}, {poly(t, "0 -1 1"), "0", "1", 0, api.OK}, {integers(t, "1", 2).p, "1", "3", 0, api.OK}, {append(high(api.MaxDegree), make([]api.Rat, 9)...), "0", "2", 1, api.OK},
	} {
		got, e := polynomial.Refine(x.p, pair(t, x.lo, x.hi), x.bits)
		if e != x.want || e != api.OK && !isZero(got) {
			t.Errorf("%s, [%s, %s], %d bits: %v %v", show(x.p), x.lo, x.hi, x.bits, got, e)
		}
	}
}

// An end that is not valid makes an interval that is not, although it counts as 0 elsewhere.
func TestRefineOfInvalid(t *testing.T) {
	for _, bad := range invalid() {
		two := number(t, "2")
		for _, x := range []struct {
			p string
			a api.Interval
		}{{"-2 0 1", api.Interval{Lo: bad, Hi: two}}, {"-2 0 1", api.Interval{Lo: rational.Neg(two), Hi: bad}}, {"0 1", api.Interval{Lo: rational.Neg(two), Hi: bad}}, {"0 1", api.Interval{Lo: bad, Hi: bad}}} {
			for _, bits := range []int{-1, 5} {
				if got, e := polynomial.Refine(poly(t, x.p), x.a, bits); e != api.ErrForm || !isZero(got) {
					t.Errorf("%s in %v: %v %v", x.p, x.a, got, e)
				}
			}
		}
		p := []api.Rat{number(t, "-2"), bad, number(t, "1"), bad}
		if got, e := polynomial.Refine(p, pair(t, "0", "2"), 60); e != api.OK || rational.Decimal(got.Lo, 15) != "1.414213562373095" {
			t.Errorf("%v: %v %v", p, got, e)
		}
	}
}

// isZero reports whether a is the zero value.
func isZero(a api.Interval) bool {
	return equal(a.Lo, api.Rat{}) && equal(a.Hi, api.Rat{})
}
