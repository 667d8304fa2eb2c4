package rational

import (
	"math/bits"
	"strings"

	"robuststats/api"
	"robuststats/integer"
)

const (
	minus    = "-"
	slash    = "/"
	point    = "."
	exponent = "eE"
)

const (
	// maxExponent is the greatest exponent that Parse reads.
	maxExponent = 40
	// maxPlaces is the greatest number of digits behind the point that Decimal writes.
	maxPlaces = 100
)

// Format writes a number.
func Format(x api.Rat) string {
	x = known(x)
	if len(x.Den) == 0 {
		return integer.Format(x.Num)
	}
	return integer.Format(x.Num) + slash + integer.Format(denominator(x))
}

// Parse reads a number.
func Parse(s string) (x api.Rat, ok bool) {
	size, neg := strings.CutPrefix(s, minus)
	if num, den, cut := strings.Cut(size, slash); cut {
		x, ok = parseFraction(num, den)
	} else {
		x, ok = parseScaled(size)
	}
	if neg {
		x.Num = integer.Neg(x.Num)
	}
	return x, ok
}

// parseFraction reads the two sides of a slash.
func parseFraction(num, den string) (x api.Rat, ok bool) {
	n, okNum := parseNatural(num)
	d, okDen := parseNatural(den)
	if !okNum || !okDen {
		return api.Rat{}, false
	}
	x, err := Make(n, d)
	return x, err == api.OK
}

// parseScaled reads an integer or a decimal, and the exponent behind it if there is one.
func parseScaled(s string) (x api.Rat, ok bool) {
	power := 0
	if i := strings.IndexAny(s, exponent); i >= 0 {
		if power, ok = parseExponent(s[i+1:]); !ok {
			return api.Rat{}, false
		}
		s = s[:i]
	}
	num, places, ok := parseDecimal(s)
	if !ok {
		return api.Rat{}, false
	}
	return scale(num, power-places), true
}

// parseExponent reads what follows the letter e.
func parseExponent(s string) (power int, ok bool) {
	digits, neg := strings.CutPrefix(s, minus)
	x, ok := parseNatural(digits)
	power, fits := integer.ToInt(x)
	if !ok || !fits || power > maxExponent {
		return 0, false
	}
	if neg {
		return -power, true
	}
	return power, true
}

// parseDecimal reads an integer or a decimal as the integer of all its digits and the number of digits behind the point.
func parseDecimal(s string) (num api.Int, places int, ok bool) {
	before, behind, cut := strings.Cut(s, point)
	if _, ok = parseNatural(before); !ok || cut && !isDigits(behind) {
		return api.Int{}, 0, false
	}
	digits := before + behind
	if len(digits) > api.MaxDigits {
		return api.Int{}, 0, false
	}
	// The digits of 0.05 begin with zeros, which those of an integer do not. Those of 0.0 are zeros only: none is left to read, and the number is 0.
	num, _ = parseNatural(strings.TrimLeft(digits, "0"))
	return num, len(behind), true
}

// parseNatural reads what natural.Parse reads.
func parseNatural(s string) (x api.Int, ok bool) {
	if strings.HasPrefix(s, minus) {
		return api.Int{}, false
	}
	return integer.Parse(s)
}

// isDigits reports whether s is one or more digits.
func isDigits(s string) bool {
	for i := range len(s) {
		if s[i] < '0' || s[i] > '9' {
			return false
		}
	}
	return len(s) > 0
}

// scale returns x times 10^power.
func scale(x api.Int, power int) api.Rat {
	if power >= 0 {
		return api.Rat{Num: integer.Mul(x, powerOfTen(power))}
	}
	// A power of 10 is not 0, so that there is no error.
	scaled, _ := Make(x, powerOfTen(-power))
	return scaled
}

// powerOfTen returns 10^k, for a k that is not negative.
func powerOfTen(k int) api.Int {
	ten := integer.FromInt(10)
	power := integer.FromInt(1)
	for i := bits.Len(uint(k)) - 1; i >= 0; i-- {
		power = integer.Mul(power, power)
		if k>>i&1 == 1 {
			power = integer.Mul(power, ten)
		}
	}
	return power
}

// Decimal writes a number rounded to so many digits.
func Decimal(x api.Rat, digits int) string {
	if digits < 0 || digits > maxPlaces {
		return ""
	}
	x = known(x)
	size := integer.Mul(api.Int{Mag: x.Num.Mag}, powerOfTen(digits))
	rounded := divideToNearest(size, denominator(x))
	text := withPoint(integer.Format(rounded), digits)
	if x.Num.Neg && integer.Sign(rounded) != 0 {
		return minus + text
	}
	return text
}

// divideToNearest returns the integer nearest to num / den, or of two nearest ones the even one, for a num that is not negative and a den that is positive.
func divideToNearest(num, den api.Int) api.Int {
	q, rest, _ := integer.Div(num, den)
	half := integer.Compare(integer.Add(rest, rest), den)
	if half > 0 || half == 0 && isOdd(q) {
		return integer.Add(q, integer.FromInt(1))
	}
	return q
}

// isOdd reports whether x is odd.
func isOdd(x api.Int) bool {
	return len(x.Mag) > 0 && x.Mag[0]%2 == 1
}

// withPoint writes so many of the digits behind a point, and at least one before it.
func withPoint(digits string, places int) string {
	if places == 0 {
		return digits
	}
	if missing := places + 1 - len(digits); missing > 0 {
		digits = strings.Repeat("0", missing) + digits
	}
	before := len(digits) - places
	return digits[:before] + point + digits[before:]
}
