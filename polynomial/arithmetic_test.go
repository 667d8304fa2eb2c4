package polynomial_test

import (
	"math/big"
	"math/rand/v2"
	"slices"
	"testing"

	"robuststats/api"
	"robuststats/polynomial"
)

// P5.2

func TestRing(t *testing.T) {
	lists, _ := broken(t)
	all := append(samples(t), lists...)
	for _, p := range all {
		for _, q := range all {
			f, g := meaning(p), meaning(q)
			same(t, "sum", polynomial.Add(p, q), sum(f, 1, g))
			same(t, "difference", polynomial.Sub(p, q), sum(f, -1, g))
			same(t, "product", polynomial.Mul(p, q), product(f, g))
		}
		same(t, "derivative of "+show(p), polynomial.Derivative(p), derivative(meaning(p)))
	}
}

func TestRingExamples(t *testing.T) {
	for _, x := range []struct{ p, q, add, sub, mul string }{
		{"-2 0 1", "1 -1 -1", "-1 -1", "-3 1 2", "-2 2 3 -1 -1"}, {"1 2 3", "1 2 3", "2 4 6", "", "1 4 10 12 9"}, {"1 2 3", "-1 -2 -3", "", "2 4 6", "-1 -4 -10 -12 -9"}, {"1 2", "", "1 2", "1 2", ""}, {"", "1 2", "1 2", "-1 -2", ""}, {"0 0", "0", "", "", ""},
		{"1/2 1/3", "1/2 0 0", "1 1/3", "0 1/3", "1/4 1/6"}, {"1 1", "1 -1", "2", "0 2", "1 0 -1"}, {"5", "7", "12", "-2", "35"},
	} {
		p, q := poly(t, x.p), poly(t, x.q)
		if got := [3]string{show(polynomial.Add(p, q)), show(polynomial.Sub(p, q)), show(polynomial.Mul(p, q))}; got != [3]string{x.add, x.sub, x.mul} {
			t.Errorf("%s, %s: %v", x.p, x.q, got)
		}
	}
	for _, x := range [][2]string{{"7 5 0 2", "5 0 6"}, {"7", ""}, {"", ""}, {"0 0", ""}, {"7 0 0", ""}, {"0 1/2 0", "1/2"}, {"1 1 1 1 1", "1 2 3 4"}} {
		if got := show(polynomial.Derivative(poly(t, x[0]))); got != x[1] {
			t.Errorf("%s: %s", x[0], got)
		}
	}
}

func TestDiv(t *testing.T) {
	lists, _ := broken(t)
	all := append(samples(t), lists...)
	for _, p := range all {
		for _, d := range all {
			f, g := meaning(p), meaning(d)
			q, r, e := polynomial.Div(p, d)
			if len(g) == 0 {
				if e != api.ErrZero || len(q) != 0 || len(r) != 0 {
					t.Errorf("%s by 0: %v %v %v", show(p), q, r, e)
				}
				continue
			}
			if e != api.OK || len(r) >= len(g) {
				t.Errorf("%s by %s: %s %v", show(p), show(d), show(r), e)
			}
			remainder := rest(f, g)
			same(t, "remainder", r, remainder)
			same(t, "quotient times divisor", polynomial.Mul(q, d), sum(f, -1, remainder))
			same(t, "quotient", q, meaning(q))
		}
	}
}

func TestDivExamples(t *testing.T) {
	for _, x := range []struct{ p, d, q, r string }{
		{"-1 0 0 1", "-1 1", "1 1 1", ""}, {"1 2 3", "0 2", "1 3/2", "1"}, {"5", "1 1", "", "5"}, {"1 2", "2", "1/2 1", ""}, {"", "1 1", "", ""}, {"0", "1 1 0", "", ""}, {"0 0 1", "1 2 0", "-1/4 1/2", "1/4"}, {"1 0 0 0 1", "1 0 1", "-1 0 1", "2"}, {"6", "-4", "-3/2", ""}, {"1 1 0 0", "3 0 1", "", "1 1"},
	} {
		if q, r, e := polynomial.Div(poly(t, x.p), poly(t, x.d)); show(q) != x.q || show(r) != x.r || e != api.OK {
			t.Errorf("%s by %s: %s, %s %v", x.p, x.d, show(q), show(r), e)
		}
	}
}

// divisor is Euclid's algorithm with the functions of math/big.
func divisor(f, g []*big.Rat) []*big.Rat {
	for len(g) > 0 {
		f, g = g, rest(f, g)
	}
	if len(f) == 0 {
		return nil
	}
	return product(f, []*big.Rat{new(big.Rat).Inv(f[len(f)-1])})
}

func TestGcd(t *testing.T) {
	lists, _ := broken(t)
	all := append(samples(t), lists...)
	for _, p := range all {
		for _, q := range all {
			same(t, "divisor of "+show(p)+" and "+show(q), polynomial.Gcd(p, q), divisor(meaning(p), meaning(q)))
		}
	}
}

func TestGcdCommonFactor(t *testing.T) {
	random := rand.New(rand.NewPCG(5, 3))
	for range 300 {
		factor := drawn(random, random.IntN(5))
		p, q := drawn(random, random.IntN(6)), drawn(random, random.IntN(6))
		p, q = polynomial.Mul(p, factor), polynomial.Mul(q, factor)
		same(t, "divisor of "+show(p)+" and "+show(q), polynomial.Gcd(p, q), divisor(meaning(p), meaning(q)))
	}
}

func TestGcdExamples(t *testing.T) {
	for _, x := range [][3]string{
		{"2 -3 1", "6 -5 1", "-2 1"}, {"4", "6", "1"}, {"4", "", "1"}, {"0 3", "", "0 1"}, {"", "2 4", "1/2 1"}, {"0 0", "2 4 0", "1/2 1"}, {"", "", ""}, {"0", "0 0", ""}, {"-1 1", "-2 1", "1"}, {"1 -2 1", "-1 0 1", "-1 1"}, {"0 0 -5", "0 0 0 -1/7", "0 0 1"}, {"3 -3", "-1/2 1/2", "-1 1"},
	} {
		p, q := poly(t, x[0]), poly(t, x[1])
		if got := show(polynomial.Gcd(p, q)); got != x[2] {
			t.Errorf("%s, %s: %s", x[0], x[1], got)
		}
		if got := show(polynomial.Gcd(q, p)); got != x[2] {
			t.Errorf("%s, %s: %s", x[1], x[0], got)
		}
	}
}

// P5.3

// chainOf is P5.3 in its own words.
func chainOf(f []*big.Rat) [][]*big.Rat {
	var chain [][]*big.Rat
	for next := derivative(f); len(f) > 0; {
		chain = append(chain, f)
		if len(next) == 0 {
			break
		}
		f, next = next, sum(nil, -1, rest(f, next))
	}
	return chain
}

func checkChain(t *testing.T, p []api.Rat) {
	t.Helper()
	got, want := polynomial.Chain(p), chainOf(meaning(p))
	if len(got) != len(want) {
		t.Errorf("%s: %d elements, not %d", show(p), len(got), len(want))
		return
	}
	for i, f := range got {
		same(t, "chain of "+show(p), f, want[i])
	}
}

func TestChain(t *testing.T) {
	lists, _ := broken(t)
	for _, p := range append(samples(t), lists...) {
		checkChain(t, p)
	}
	for _, c := range curves(t) {
		checkChain(t, c.p)
	}
	random := rand.New(rand.NewPCG(5, 4))
	for range 60 {
		p, square := drawn(random, random.IntN(9)), drawn(random, random.IntN(3))
		checkChain(t, p)
		checkChain(t, polynomial.Mul(p, polynomial.Mul(square, square)))
	}
}

func TestChainExamples(t *testing.T) {
	for _, x := range []struct {
		p    string
		want []string
	}{
		{"-2 0 1", []string{"-2 0 1", "0 2", "2"}}, {"5", []string{"5"}}, {"-5 0", []string{"-5"}}, {"", nil}, {"0 0", nil}, {"3 2", []string{"3 2", "2"}}, {"1 -2 1 0", []string{"1 -2 1", "-2 2"}}, {"0 -1 0 1", []string{"0 -1 0 1", "-1 0 3", "0 2/3", "1"}}, {"1 0 1", []string{"1 0 1", "0 2", "-1"}}, {"-1 0 0 0 0 1", []string{"-1 0 0 0 0 1", "0 0 0 0 5", "1"}},
	} {
		var got []string
		for _, f := range polynomial.Chain(poly(t, x.p)) {
			got = append(got, show(f))
		}
		if !slices.Equal(got, x.want) {
			t.Errorf("%s: %q", x.p, got)
		}
	}
}

// Consequence: the last element of Chain divides p, and is a constant if p has no multiple roots.
func TestChainEnd(t *testing.T) {
	for _, c := range curves(t) {
		chain := polynomial.Chain(c.p)
		end := chain[len(chain)-1]
		if _, r, e := polynomial.Div(c.p, end); len(r) != 0 || e != api.OK {
			t.Errorf("%s: %s does not divide it", show(c.p), show(end))
		}
		simple := polynomial.Degree(polynomial.Gcd(c.p, polynomial.Derivative(c.p))) == 0
		if simple != (polynomial.Degree(end) == 0) {
			t.Errorf("%s: %s", show(c.p), show(end))
		}
	}
	for _, n := range []int{1, 5, 12} {
		chain := polynomial.Chain(integers(t, "5", n).p)
		if len(chain) != n+1 || polynomial.Degree(chain[n]) != 0 {
			t.Errorf("%d simple roots: %d elements", n, len(chain))
		}
	}
}
