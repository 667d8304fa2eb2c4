package matrix

import (
	"robuststats/api"
	"robuststats/rational"
)

// line is a row or a column times a positive number, such that its numbers are integers: sums and products of these need no common divisors and are quick.
type line struct {
	numbers []api.Rat
	scale   api.Rat
}

// whole returns the line of some numbers whose scale is their least common denominator.
func whole(numbers []api.Rat) line {
	scale := rational.FromInt(1)
	for _, x := range numbers {
		if len(x.Den) > 0 {
			// What the scale leaves of a denominator is missing in the scale.
			scale = rational.Mul(scale, denominator(rational.Mul(scale, x)))
		}
	}
	l := line{make([]api.Rat, len(numbers)), scale}
	for i, x := range numbers {
		l.numbers[i] = rational.Mul(scale, x)
	}
	return l
}

// denominator returns the denominator of a valid number with its limbs.
func denominator(x api.Rat) api.Rat {
	if len(x.Den) == 0 {
		return rational.FromInt(1)
	}
	return api.Rat{Num: api.Int{Mag: x.Den}}
}

// dot returns the sum of the products of the numbers for which two lines of the same length stand.
func dot(a, b line) api.Rat {
	sum := api.Rat{}
	for i, x := range a.numbers {
		sum = rational.Add(sum, rational.Mul(x, b.numbers[i]))
	}
	return quotient(sum, rational.Mul(a.scale, b.scale))
}

// quotient returns x / y, for a y that is not 0.
func quotient(x, y api.Rat) api.Rat {
	q, _ := rational.Div(x, y)
	return q
}
