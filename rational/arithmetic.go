package rational

import (
	"robuststats/api"
	"robuststats/integer"
)

// Add returns x + y.
func Add(x, y api.Rat) api.Rat {
	return sum(known(x), known(y))
}

// Sub returns x - y.
func Sub(x, y api.Rat) api.Rat {
	y = known(y)
	return sum(known(x), api.Rat{Num: integer.Neg(y.Num), Den: y.Den})
}

// sum adds two valid numbers.
func sum(x, y api.Rat) api.Rat {
	if s, t, ok := bothShort(x, y); ok {
		return quotientOfInts(s.num*t.den+t.num*s.den, s.den*t.den)
	}
	if len(x.Den) == 0 && len(y.Den) == 0 {
		return api.Rat{Num: integer.Add(x.Num, y.Num)}
	}
	b, d := denominator(x), denominator(y)
	common := divisor(b, d)
	b = over(b, common)
	num := integer.Add(integer.Mul(x.Num, over(d, common)), integer.Mul(y.Num, b))
	// A divisor of only one of the denominators divides just one of the products, so that it does not divide their sum.
	rest := divisor(num, common)
	return fraction(over(num, rest), integer.Mul(b, over(d, rest)))
}

// Mul returns x y.
func Mul(x, y api.Rat) api.Rat {
	return product(known(x), known(y))
}

// Div returns x / y.
func Div(x, y api.Rat) (api.Rat, api.Errno) {
	y = known(y)
	if integer.Sign(y.Num) == 0 {
		return api.Rat{}, api.ErrZero
	}
	return product(known(x), inverse(y)), api.OK
}

// inverse returns 1 / x with the limbs of x, for a valid x that is not 0.
func inverse(x api.Rat) api.Rat {
	num := denominator(x)
	num.Neg = x.Num.Neg
	return fraction(num, api.Int{Mag: x.Num.Mag})
}

// product multiplies two valid numbers.
func product(x, y api.Rat) api.Rat {
	if s, t, ok := bothShort(x, y); ok {
		return quotientOfInts(s.num*t.num, s.den*t.den)
	}
	if len(x.Den) == 0 && len(y.Den) == 0 {
		return api.Rat{Num: integer.Mul(x.Num, y.Num)}
	}
	b, d := denominator(x), denominator(y)
	// Cancelling crosswise before multiplying leaves no divisor in common, and keeps the numbers small.
	first, second := divisor(x.Num, d), divisor(y.Num, b)
	num := integer.Mul(over(x.Num, first), over(y.Num, second))
	return fraction(num, integer.Mul(over(b, second), over(d, first)))
}
