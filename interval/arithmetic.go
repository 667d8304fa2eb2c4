package interval

import (
	"robuststats/api"
	"robuststats/rational"
)

// Add returns the sums.
func Add(a, b api.Interval) api.Interval {
	a, b = known(a), known(b)
	return api.Interval{Lo: rational.Add(a.Lo, b.Lo), Hi: rational.Add(a.Hi, b.Hi)}
}

// Sub returns the differences.
func Sub(a, b api.Interval) api.Interval {
	a, b = known(a), known(b)
	return api.Interval{Lo: rational.Sub(a.Lo, b.Hi), Hi: rational.Sub(a.Hi, b.Lo)}
}

// Mul returns the products.
func Mul(a, b api.Interval) api.Interval {
	a, b = known(a), known(b)
	// While one factor stays, the product is greatest and least at ends of the other one.
	return around(rational.Mul(a.Lo, b.Lo), rational.Mul(a.Lo, b.Hi), rational.Mul(a.Hi, b.Lo), rational.Mul(a.Hi, b.Hi))
}

// Div returns the quotients.
func Div(a, b api.Interval) (api.Interval, api.Errno) {
	if Contains(b, api.Rat{}) {
		return api.Interval{}, api.ErrZero
	}
	one := rational.FromInt(1)
	// Without 0, b has numbers of one sign only, whose inverses fall from that of Lo to that of Hi.
	lo, _ := rational.Div(one, b.Hi)
	hi, _ := rational.Div(one, b.Lo)
	return Mul(a, api.Interval{Lo: lo, Hi: hi}), api.OK
}

// Square returns the squares.
func Square(a api.Interval) api.Interval {
	a = known(a)
	atLo, atHi := rational.Mul(a.Lo, a.Lo), rational.Mul(a.Hi, a.Hi)
	if Contains(a, api.Rat{}) {
		// The squares fall before 0 and rise behind it, so that the least one may be at neither end.
		return around(api.Rat{}, atLo, atHi)
	}
	return around(atLo, atHi)
}
