package polynomial

import (
	"slices"

	"robuststats/api"
	"robuststats/interval"
	"robuststats/rational"
)

// Count returns the number of roots that are greater than lo and at most hi.
func Count(p []api.Rat, lo, hi api.Rat) int {
	if length(p) == 0 {
		return -1
	}
	x, e := interval.Make(lo, hi)
	if e != api.OK {
		return 0
	}
	return countRoots(sturm(p), x)
}

// countRoots returns the number of roots that are greater than Lo and at most Hi of x, for the chain that sturm returns.
func countRoots(chain [][]api.Rat, x api.Interval) int {
	x, ok := nearRoots(chain[0], x)
	if !ok {
		return 0
	}
	return changes(chain, x.Lo) - changes(chain, x.Hi)
}

// sturm returns Sturm's chain of a polynomial that is not zero, each element times a positive number and divided by the last one. Before the division, all elements are 0 at a root that occurs more than once, and do not tell it from the numbers beside it. The first element has the same roots as p, each of them once.
func sturm(p []api.Rat) [][]api.Rat {
	var chain [][]api.Rat
	for f := range euclid(p, Derivative(p)) {
		chain = append(chain, f)
	}
	divisor := chain[len(chain)-1]
	for i, f := range chain {
		// By Gauss's lemma, the quotients of whole polynomials are whole again.
		chain[i], _, _ = Div(f, divisor)
	}
	return chain
}

// changes returns how often the sign changes in a chain at x, without regard to elements that are 0.
func changes(chain [][]api.Rat, x api.Rat) int {
	count, before := 0, 0
	for _, f := range chain {
		sign := signAt(f, x)
		if sign == 0 {
			continue
		}
		if sign == -before {
			count++
		}
		before = sign
	}
	return count
}

// signAt returns the sign of the value at x, for a polynomial whose coefficients are integers. The value times a power of the denominator is an integer, which is found without common divisors.
func signAt(f []api.Rat, x api.Rat) int {
	value, power := api.Rat{}, rational.FromInt(1)
	for _, c := range slices.Backward(f) {
		value = rational.Add(rational.Mul(value, numerator(x)), rational.Mul(c, power))
		power = rational.Mul(power, denominator(x))
	}
	return rational.Sign(value)
}

// nearRoots returns the part of x in which the roots of f can be, in new memory, or false if there is none.
func nearRoots(f []api.Rat, x api.Interval) (api.Interval, bool) {
	greatest := api.Rat{}
	for _, c := range f[:len(f)-1] {
		ratio, _ := rational.Div(rational.Abs(c), rational.Abs(last(f)))
		if rational.Compare(ratio, greatest) > 0 {
			greatest = ratio
		}
	}
	// By Cauchy's bound, the absolute value of a root is less than 1 more than the greatest ratio.
	bound := rational.Add(api.Rat{Num: rational.Floor(greatest)}, rational.FromInt(2))
	return interval.Meet(x, api.Interval{Lo: rational.Neg(bound), Hi: bound})
}
