package matrix

import (
	"slices"

	"robuststats/api"
	"robuststats/rational"
)

// Inverse returns the inverse.
func Inverse(m [][]api.Rat) ([][]api.Rat, api.Errno) {
	if !isWellFormed(m) || columns(m) != len(m) {
		return nil, api.ErrShape
	}
	n := len(m)
	wide := make([][]api.Rat, n)
	for i, row := range m {
		unit := make([]api.Rat, n)
		unit[i] = rational.FromInt(1)
		wide[i] = joined(row, unit)
	}
	form := eliminate(wide)
	// With the unit matrix at its right, every matrix has n pivots.
	if n > 0 && form.pivots[n-1] != n-1 {
		return nil, api.ErrSingular
	}
	inverse := form.reduced()
	for i, row := range inverse {
		inverse[i] = row[n:]
	}
	return inverse, api.OK
}

// joined returns the numbers of a followed by those of b, with their limbs.
func joined(a, b []api.Rat) []api.Rat {
	list := make([]api.Rat, len(a)+len(b))
	copy(list, a)
	copy(list[len(a):], b)
	return list
}

// Solve returns a solution of a x = b.
func Solve(a [][]api.Rat, b []api.Rat) ([]api.Rat, api.Errno) {
	if !isWellFormed(a) || len(b) != len(a) {
		return nil, api.ErrShape
	}
	n := columns(a)
	wide := make([][]api.Rat, len(a))
	for i, row := range a {
		wide[i] = joined(row, b[i:i+1])
	}
	form := eliminate(wide)
	if slices.Contains(form.pivots, n) {
		return nil, api.ErrInfeasible
	}
	x := make([]api.Rat, n)
	for i, value := range form.reducedColumn(n) {
		x[form.pivots[i]] = value
	}
	return x, api.OK
}

// Null returns a basis of the solutions of m x = 0.
func Null(m [][]api.Rat) ([][]api.Rat, api.Errno) {
	if !isWellFormed(m) {
		return nil, api.ErrShape
	}
	form := eliminate(m)
	var basis [][]api.Rat
	for _, c := range form.free() {
		element := make([]api.Rat, columns(m))
		element[c] = rational.FromInt(1)
		for i, value := range form.reducedColumn(c) {
			element[form.pivots[i]] = rational.Neg(value)
		}
		basis = append(basis, element)
	}
	return basis, api.OK
}
