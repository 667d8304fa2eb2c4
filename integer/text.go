package integer

import (
	"strings"

	"robuststats/api"
	"robuststats/natural"
)

const minus = "-"

// Format returns the decimal digits.
func Format(x api.Int) string {
	x = known(x)
	digits := natural.Format(x.Mag)
	if x.Neg {
		return minus + digits
	}
	return digits
}

// Parse reads decimal digits.
func Parse(s string) (x api.Int, ok bool) {
	digits, neg := strings.CutPrefix(s, minus)
	size, ok := natural.Parse(digits)
	// Format writes no minus sign before 0.
	if !ok || neg && len(size) == 0 {
		return api.Int{}, false
	}
	return signed(neg, size), true
}
