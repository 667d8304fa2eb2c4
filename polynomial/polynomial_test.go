package polynomial_test

import (
	"math/big"
	"math/rand/v2"
	"testing"

	"robuststats/api"
	"robuststats/interval"
	"robuststats/polynomial"
	"robuststats/rational"
)

// P5.1

func TestTrim(t *testing.T) {
	for _, p := range samples(t) {
		same(t, "trimmed "+show(p), polynomial.Trim(p), meaning(p))
	}
	lists, meant := broken(t)
	for i, p := range lists {
		same(t, "trimmed", polynomial.Trim(p), meaning(meant[i]))
	}
	for _, x := range [][2]string{{"", ""}, {"0", ""}, {"0 0 0", ""}, {"1 2 0 0", "1 2"}, {"0 0 3", "0 0 3"}, {"0 0 3 0", "0 0 3"}, {"-1/2", "-1/2"}} {
		if got := show(polynomial.Trim(poly(t, x[0]))); got != x[1] {
			t.Errorf("%s: %s", x[0], got)
		}
	}
}

func TestDegree(t *testing.T) {
	for _, p := range samples(t) {
		if got := polynomial.Degree(p); got != len(meaning(p))-1 {
			t.Errorf("%s: %d", show(p), got)
		}
	}
	lists, meant := broken(t)
	for i, p := range lists {
		if got := polynomial.Degree(p); got != len(meant[i])-1 {
			t.Errorf("%v: %d", p, got)
		}
	}
	for s, want := range map[string]int{"": -1, "0": -1, "0 0": -1, "4": 0, "4 0 0": 0, "0 4": 1, "0 0 0 -1/3 0": 3} {
		if got := polynomial.Degree(poly(t, s)); got != want {
			t.Errorf("%s: %d", s, got)
		}
	}
}

// arguments are numbers at which polynomials are evaluated.
func arguments(t *testing.T) []api.Rat {
	t.Helper()
	return append(poly(t, "0 1 -1 2 -3 1/2 -7/3 10 4294967296 -18446744073709551617/5 1/340282366920938463463374607431768211457"), invalid()...)
}

func TestEval(t *testing.T) {
	for _, p := range samples(t) {
		for _, x := range arguments(t) {
			want, power := new(big.Rat), big.NewRat(1, 1)
			for _, c := range p {
				want.Add(want, new(big.Rat).Mul(toBig(c), power))
				power.Mul(power, toBig(x))
			}
			if got := polynomial.Eval(p, x); !equal(got, fromBig(want)) {
				t.Errorf("%s at %s: %s", show(p), rational.Format(x), rational.Format(got))
			}
		}
	}
	for _, x := range [][3]string{{"-2 0 1", "3", "7"}, {"-2 0 1", "-1/2", "-7/4"}, {"1 2 3", "10", "321"}, {"5", "9", "5"}, {"", "9", "0"}, {"0 0", "9", "0"}, {"-1 1", "1", "0"}} {
		if got := rational.Format(polynomial.Eval(poly(t, x[0]), number(t, x[1]))); got != x[2] {
			t.Errorf("%s at %s: %s", x[0], x[1], got)
		}
	}
}

// Consequence: Eval is a homomorphism of rings.
func TestEvalOfRing(t *testing.T) {
	for _, p := range samples(t) {
		for _, q := range samples(t) {
			for _, x := range arguments(t)[:8] {
				a, b := polynomial.Eval(p, x), polynomial.Eval(q, x)
				if !equal(polynomial.Eval(polynomial.Add(p, q), x), rational.Add(a, b)) || !equal(polynomial.Eval(polynomial.Sub(p, q), x), rational.Sub(a, b)) || !equal(polynomial.Eval(polynomial.Mul(p, q), x), rational.Mul(a, b)) {
					t.Errorf("%s, %s at %s", show(p), show(q), rational.Format(x))
				}
			}
		}
	}
	if got := polynomial.Eval(poly(t, "1"), number(t, "17/3")); !equal(got, rational.FromInt(1)) {
		t.Errorf("one: %v", got)
	}
}

// intervals are valid ones, ones in the wrong order, and ones with ends that are not valid.
func intervals(t *testing.T) []api.Interval {
	t.Helper()
	list := append(spans(t), pair(t, "2", "1"), pair(t, "5", "-1"), pair(t, "-1/2", "-2/3"))
	for _, bad := range invalid() {
		list = append(list, api.Interval{Lo: bad, Hi: number(t, "3")}, api.Interval{Lo: number(t, "-3"), Hi: bad}, api.Interval{Lo: number(t, "3"), Hi: bad}, api.Interval{Lo: bad, Hi: number(t, "-3")}, api.Interval{Lo: bad, Hi: bad})
	}
	return list
}

// enclosure is P5.1 in its own words.
func enclosure(p []api.Rat, x api.Interval) api.Interval {
	f := meaning(p)
	if len(f) == 0 {
		return api.Interval{}
	}
	at := func(i int) api.Interval { return api.Interval{Lo: fromBig(f[i]), Hi: fromBig(f[i])} }
	values := at(len(f) - 1)
	for i := len(f) - 2; i >= 0; i-- {
		values = interval.Add(interval.Mul(values, x), at(i))
	}
	return values
}

func TestEnclose(t *testing.T) {
	lists, _ := broken(t)
	for _, p := range append(samples(t), lists...) {
		for _, x := range intervals(t) {
			got, want := polynomial.Enclose(p, x), enclosure(p, x)
			if !equal(got.Lo, want.Lo) || !equal(got.Hi, want.Hi) {
				t.Errorf("%s, %s: %s, not %s", show(p), showInterval(x), showInterval(got), showInterval(want))
			}
		}
	}
	for _, x := range [][4]string{{"-2 0 1", "0", "2", "[-2, 2]"}, {"-2 0 1", "-1", "2", "[-4, 2]"}, {"-2 0 1 0", "1", "1", "[-1, -1]"}, {"-2 0 1", "2", "1", "[-2, -2]"}, {"5", "1", "2", "[5, 5]"}, {"", "1", "2", "[0, 0]"}, {"0 0", "1", "2", "[0, 0]"}, {"0 -1 1", "0", "1", "[-1, 0]"}} {
		if got := showInterval(polynomial.Enclose(poly(t, x[0]), pair(t, x[1], x[2]))); got != x[3] {
			t.Errorf("%v: %s", x, got)
		}
	}
}

func TestEncloseContainsValues(t *testing.T) {
	random := rand.New(rand.NewPCG(5, 2))
	for range 500 {
		p := drawn(random, random.IntN(7))
		x := api.Interval{Lo: fromBig(big.NewRat(random.Int64N(41)-20, 7))}
		x.Hi = rational.Add(x.Lo, fromBig(big.NewRat(random.Int64N(30), 4)))
		share := fromBig(big.NewRat(random.Int64N(11), 10))
		v := rational.Add(x.Lo, rational.Mul(share, interval.Width(x)))
		if !interval.Contains(polynomial.Enclose(p, x), polynomial.Eval(p, v)) {
			t.Errorf("%s at %s of %s", show(p), rational.Format(v), showInterval(x))
		}
	}
}
