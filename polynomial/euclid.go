package polynomial

import (
	"iter"

	"robuststats/api"
	"robuststats/rational"
)

// Gcd returns the greatest common divisor whose last coefficient is 1.
func Gcd(p, q []api.Rat) []api.Rat {
	if length(p) == 0 {
		p, q = q, p
	}
	var divisor []api.Rat
	for f := range euclid(p, q) {
		divisor = f
	}
	if len(divisor) == 0 {
		return nil
	}
	return divided(divisor, last(divisor))
}

// Chain returns Sturm's chain.
func Chain(p []api.Rat) [][]api.Rat {
	var chain [][]api.Rat
	before, factor := rational.FromInt(1), rational.FromInt(1)
	for f, scale := range euclid(p, Derivative(p)) {
		// A remainder is multiplied as often as the dividend is, which stands two places before it.
		before, factor = factor, rational.Mul(before, scale)
		chain = append(chain, divided(f, factor))
	}
	return chain
}

// euclid yields p, q and the negative remainders of each two of these in turn, up to the zero polynomial, which is not yielded. All are made whole, as the numbers of the exact remainders grow fast. Beside each one is the positive number that multiplies it, for a remainder that of the two whole polynomials before it.
func euclid(p, q []api.Rat) iter.Seq2[[]api.Rat, api.Rat] {
	return func(yield func(f []api.Rat, scale api.Rat) bool) {
		f, scale := whole(p)
		g, next := whole(q)
		for len(f) > 0 && yield(f, scale) && len(g) > 0 {
			r, multiple := remainder(f, g)
			f, scale, g, next = g, next, r, multiple
		}
	}
}

// remainder returns the negative remainder of f by d times a positive number, and this number. All three polynomials are whole: sums and products of integers need no common divisors and are quick.
func remainder(f, d []api.Rat) (r []api.Rat, scale api.Rat) {
	r, scale = f, rational.FromInt(1)
	for len(r) >= len(d) {
		quotient, _ := rational.Div(last(r), last(d))
		shifted := append(make([]api.Rat, len(r)-len(d)), d...)
		r = Sub(scaled(r, denominator(quotient)), scaled(shifted, numerator(quotient)))
		scale = rational.Mul(scale, denominator(quotient))
	}
	r, factor := whole(each(r, rational.Neg))
	return r, rational.Mul(scale, factor)
}

// whole returns p times a positive number, such that the coefficients are integers without a common divisor, and this number.
func whole(p []api.Rat) (f []api.Rat, scale api.Rat) {
	p = p[:length(p)]
	if len(p) == 0 {
		return nil, api.Rat{}
	}
	size := rational.Abs(last(p))
	f = divided(p, size)
	// The last coefficient is 1 or -1 now and becomes the least common denominator. What divides all coefficients then would divide this denominator, too, and a smaller one would do.
	common := rational.FromInt(1)
	for _, c := range f {
		common = rational.Mul(common, denominator(rational.Mul(common, c)))
	}
	scale, _ = rational.Div(common, size)
	return scaled(f, common), scale
}

// divided returns p divided by a number that is not 0.
func divided(p []api.Rat, divisor api.Rat) []api.Rat {
	num, den := numerator(divisor), denominator(divisor)
	return each(p, func(c api.Rat) api.Rat {
		quotient, _ := rational.Div(c, num)
		return rational.Mul(quotient, den)
	})
}

// numerator returns the numerator of a valid number with its limbs.
func numerator(x api.Rat) api.Rat {
	return api.Rat{Num: x.Num}
}

// denominator returns the denominator of a valid number with its limbs.
func denominator(x api.Rat) api.Rat {
	if len(x.Den) == 0 {
		return rational.FromInt(1)
	}
	return api.Rat{Num: api.Int{Mag: x.Den}}
}
