package rational

import (
	"math"

	"robuststats/api"
	"robuststats/integer"
)

// short is a number whose numerator and denominator are so small that sums of two products of them fit into an int. Most numbers in tables are short, and ints are many times faster than lists of limbs.
type short struct {
	num, den int
}

// bothShort returns the values of two valid numbers if both are short.
func bothShort(x, y api.Rat) (s, t short, ok bool) {
	if s, ok = shortOf(x); ok {
		t, ok = shortOf(y)
	}
	return s, t, ok
}

// shortOf returns the value of a valid number if it is short.
func shortOf(x api.Rat) (s short, ok bool) {
	if len(x.Num.Mag) > 1 || len(x.Den) > 1 {
		return short{}, false
	}
	s.den = 1
	for _, limb := range x.Num.Mag {
		s.num = int(limb)
	}
	for _, limb := range x.Den {
		s.den = int(limb)
	}
	if max(s.num, s.den) > math.MaxInt32 {
		return short{}, false
	}
	if x.Num.Neg {
		s.num = -s.num
	}
	return s, true
}

// divisorOfInts returns the greatest common divisor of two ints that are not negative.
func divisorOfInts(x, y int) int {
	for y != 0 {
		x, y = y, x%y
	}
	return x
}

// quotientOfInts returns num / den, for a den that is positive.
func quotientOfInts(num, den int) api.Rat {
	common := divisorOfInts(max(num, -num), den)
	return fraction(integer.FromInt(num/common), integer.FromInt(den/common))
}
