package leastsq

import (
	"slices"

	"robuststats/api"
	"robuststats/matrix"
	"robuststats/rational"
)

// mostRows is the greatest number of rows that moments may be given with.
const mostRows = 1 << 40

// areMoments reports whether m has the form of moments.
func areMoments(m api.Moments) bool {
	width := len(m.XY)
	if m.N < 0 || m.N > mostRows || width > api.MaxCols || len(m.XX) != width {
		return false
	}
	return !slices.ContainsFunc(m.XX, func(row []api.Rat) bool { return len(row) != width })
}

// Gather returns the moments of rows.
func Gather(x [][]api.Rat, y []api.Rat) (api.Moments, api.Errno) {
	if !areProper(x, y) {
		return api.Moments{}, api.ErrShape
	}
	columns, _ := matrix.Transpose(x)
	m := api.Moments{N: len(x), YY: sumOfSquares(y)}
	m.XX, _ = matrix.Mul(columns, x)
	m.XY, _ = matrix.Apply(columns, y)
	return m, api.OK
}

// Shift adds a row to moments, or takes one away.
func Shift(m api.Moments, row []api.Rat, y api.Rat, add bool) (api.Moments, api.Errno) {
	switch {
	case !areMoments(m):
		return api.Moments{}, api.ErrForm
	case len(row) != len(m.XY):
		return api.Moments{}, api.ErrShape
	case !add && m.N == 0:
		return api.Moments{}, api.ErrRange
	}
	rows, change := m.N+1, rational.Add
	if !add {
		rows, change = m.N-1, rational.Sub
	}
	shifted := func(sum, a, b api.Rat) api.Rat { return change(sum, rational.Mul(a, b)) }
	s := api.Moments{N: rows, XX: make([][]api.Rat, len(row)), XY: make([]api.Rat, len(row)), YY: shifted(m.YY, y, y)}
	for j, a := range row {
		s.XX[j] = make([]api.Rat, len(row))
		for k, b := range row {
			s.XX[j][k] = shifted(m.XX[j][k], a, b)
		}
		s.XY[j] = shifted(m.XY[j], a, y)
	}
	return s, api.OK
}

// FromMoments returns the fit of moments.
func FromMoments(m api.Moments) (coef []api.Rat, rss api.Rat, rank int, e api.Errno) {
	if !areMoments(m) {
		return nil, api.Rat{}, 0, api.ErrForm
	}
	// One reduction of the matrix with XY as its last column leads to the rank and to what matrix.Solve returns.
	width := len(m.XY)
	wide := make([][]api.Rat, width)
	for j, row := range m.XX {
		wide[j] = slices.Concat(row, m.XY[j:j+1])
	}
	reduced, pivots, _ := matrix.Reduce(wide)
	if slices.Contains(pivots, width) {
		return nil, api.Rat{}, 0, api.ErrInfeasible
	}
	coef = make([]api.Rat, width)
	explained := api.Rat{}
	for i, j := range pivots {
		coef[j] = reduced[i][width]
		explained = rational.Add(explained, rational.Mul(coef[j], m.XY[j]))
	}
	return coef, rational.Sub(m.YY, explained), len(pivots), api.OK
}
