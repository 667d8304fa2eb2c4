package leastsq_test

import (
	"math"
	"testing"

	"robuststats/api"
	"robuststats/leastsq"
	"robuststats/rational"
)

// hasNoShape expects ErrShape of all functions that take x and y, and no results.
func hasNoShape(t *testing.T, x [][]api.Rat, y []api.Rat) {
	t.Helper()
	if f, e := leastsq.Fit(x, y); showFit(f) != noFit || e != api.ErrShape {
		t.Errorf("%.300s, y %.300s: %.300s, error %d", showRows(x), show(y), showFit(f), e)
	}
	if m, e := leastsq.Gather(x, y); showMoments(m) != noMoments || e != api.ErrShape {
		t.Errorf("%.300s, y %.300s: %.300s, error %d", showRows(x), show(y), showMoments(m), e)
	}
	widths := map[int]bool{0: true, 1: true, 13: true}
	for _, row := range x {
		widths[len(row)] = true
	}
	for width := range widths {
		if r, e := leastsq.Residuals(x, y, make([]api.Rat, width)); len(r) > 0 || e != api.ErrShape {
			t.Errorf("%.300s, y %.300s: %.300s, error %d", showRows(x), show(y), show(r), e)
		}
	}
}

// P13.1, P13.2: lists that are not proper.
func TestImproper(t *testing.T) {
	for _, v := range []struct{ x, y string }{
		{"", ""}, {"", "1"}, {"-", "1"}, {"-; -", "1 2"}, {"-", "-"}, {"1", "-"}, {"1", "1 2"}, {"1; 2", "1"}, {"1; 2", "1 2 3"}, {"1 2; 3", "1 2"}, {"1; 2 3", "1 2"}, {"1; -", "1 2"}, {"-; 1", "1 2"}, {"1 2; 3 4; 5", "1 2 3"}, {"1 2; 3 4; 5 6 7", "1 2 3"},
		{"1 2 3 4 5 6 7 8 9 10 11 12 13", "1"},
	} {
		hasNoShape(t, rows(t, v.x), list(t, v.y))
	}
}

// P13.1, P13.2: the limits of the rows and of the columns.
func TestSizes(t *testing.T) {
	for _, v := range []struct {
		rows, width int
		want        bool
	}{{64, 12, true}, {65, 12, false}, {64, 13, false}, {65, 13, false}, {64, 1, true}, {65, 1, false}, {1, 12, true}, {1, 13, false}, {96, 1, false}, {97, 1, false}, {1, 96, false}, {1, 97, false}, {1000, 1000, false}} {
		x, y := zeros(v.rows, v.width), make([]api.Rat, v.rows)
		if !v.want {
			hasNoShape(t, x, y)
			continue
		}
		f, e := leastsq.Fit(x, y)
		m, g := leastsq.Gather(x, y)
		r, h := leastsq.Residuals(x, y, make([]api.Rat, v.width))
		if e+g+h != api.OK || len(f.Coef) != v.width || len(f.Used) != v.width || len(f.Residuals) != v.rows || len(f.Leverage) != v.rows || m.N != v.rows || len(m.XX) != v.width || len(m.XY) != v.width || len(r) != v.rows {
			t.Errorf("%d rows and %d columns: errors %d, %d, %d", v.rows, v.width, e, g, h)
		}
	}
}

// P13.1: Residuals needs a coefficient for each column.
func TestCoefficients(t *testing.T) {
	x, y := rows(t, "1 2; 3 4; 5 6"), list(t, "1 2 3")
	for _, b := range []string{"-", "1", "1 2 3", "1 2 3 4 5 6 7 8 9 10 11 12 13"} {
		if r, e := leastsq.Residuals(x, y, list(t, b)); len(r) > 0 || e != api.ErrShape {
			t.Errorf("%s: %s, error %d", b, show(r), e)
		}
	}
}

// formed are moments with so many rows, and squares of zeros.
func formed(n, width int) api.Moments {
	return api.Moments{N: n, XX: zeros(width, width), XY: make([]api.Rat, width)}
}

// isFormless expects ErrForm of Shift and FromMoments, and no results.
func isFormless(t *testing.T, m api.Moments) {
	t.Helper()
	for _, width := range []int{0, 1, 2, 12, 13, len(m.XX), len(m.XY)} {
		for _, add := range []bool{true, false} {
			shifts(t, m, make([]api.Rat, width), rational.FromInt(1), add, noMoments, api.ErrForm)
		}
	}
	solves(t, m, noSolution, api.ErrForm)
}

// P13.2, P13.3: moments that have no form, ahead of other errors.
func TestFormless(t *testing.T) {
	for _, n := range []int{-1, math.MinInt, 1<<40 + 1, math.MaxInt} {
		for _, width := range []int{0, 1, 2, 12} {
			isFormless(t, formed(n, width))
		}
	}
	for _, v := range []struct{ xx, xy string }{
		{"", "1"}, {"1", "-"}, {"1 2", "1"}, {"1; 2", "1"}, {"1; 2", "1 2"}, {"1 2; 3", "1 2"}, {"1; 2 3", "1 2"}, {"1 2; 3 4", "1"}, {"1 2; 3 4", "1 2 3"}, {"1 2", "1 2"}, {"1 2 3; 4 5 6", "1 2"}, {"1 2; 3 4; 5 6", "1 2"}, {"1 2; 3 4; 5 6", "1 2 3"}, {"-", "1"}, {"-", "-"}, {"-; -", "1 2"}, {"1 2; -", "1 2"},
	} {
		for _, n := range []int{0, 1, 1 << 40} {
			isFormless(t, api.Moments{N: n, XX: rows(t, v.xx), XY: list(t, v.xy)})
		}
	}
	for _, width := range []int{13, 64, 96, 97} {
		isFormless(t, formed(0, width))
		isFormless(t, formed(1, width))
	}
}

// P13.2: a row that does not fit is an error ahead of the missing row.
func TestShiftErrors(t *testing.T) {
	for _, width := range []int{0, 1, 2, 12} {
		for _, n := range []int{0, 1, 1 << 40} {
			for _, other := range []int{0, 1, 2, 3, 11, 12, 13, 97} {
				if other != width {
					shifts(t, formed(n, width), make([]api.Rat, other), api.Rat{}, true, noMoments, api.ErrShape)
					shifts(t, formed(n, width), make([]api.Rat, other), api.Rat{}, false, noMoments, api.ErrShape)
				}
			}
		}
		shifts(t, formed(0, width), make([]api.Rat, width), api.Rat{}, false, noMoments, api.ErrRange)
	}
}

// P13.2: moments of the least and of the greatest number of rows.
func TestNumbersOfRows(t *testing.T) {
	for _, width := range []int{0, 1, 12} {
		for _, v := range []struct {
			from, to int
			add      bool
		}{{0, 1, true}, {1, 0, false}, {1, 2, true}, {1 << 40, 1<<40 + 1, true}, {1 << 40, 1<<40 - 1, false}, {1<<40 - 1, 1 << 40, true}} {
			shifts(t, formed(v.from, width), make([]api.Rat, width), api.Rat{}, v.add, showMoments(formed(v.to, width)), api.OK)
		}
		solves(t, formed(1<<40, width), solution{coef: make([]api.Rat, width)}.String(), api.OK)
	}
}

// P13.3: products for which there are no coefficients.
func TestInfeasible(t *testing.T) {
	for _, v := range []struct{ xx, xy string }{{"0", "1"}, {"1 1; 1 1", "1 2"}, {"0 0; 0 1", "1 0"}, {"1 2; 1 2", "0 1/2"}, {"1 0 0; 0 1 0; 0 0 0", "1 1 1"}, {"1 0 1; 0 1 1; 1 1 2", "1 1 1"}, {"0 1; 0 1", "1 -1"}} {
		solves(t, api.Moments{XX: rows(t, v.xx), XY: list(t, v.xy), YY: rational.FromInt(7)}, noSolution, api.ErrInfeasible)
	}
}
