package matrix

import (
	"slices"

	"robuststats/api"
	"robuststats/rational"
)

// echelon is a row echelon form with integers. Its rows are in the row space of the matrix, and its pivots are in the columns of those of the reduced form.
type echelon struct {
	rows   [][]api.Rat
	pivots []int
	last   api.Rat // the last pivot, 1 if there is none
	scale  api.Rat // what the determinant has been multiplied by
}

// eliminate returns an echelon form of m. It is Bareiss's method: each number is a determinant of rows and columns of the matrix with its rows made whole, and the last pivot divides all that the next step leaves. So the numbers stay as short as determinants are, and no common divisors are looked for.
func eliminate(m [][]api.Rat) echelon {
	form := echelon{rows: make([][]api.Rat, len(m)), last: rational.FromInt(1), scale: rational.FromInt(1)}
	for i, row := range m {
		l := whole(row)
		form.rows[i] = l.numbers
		form.scale = rational.Mul(form.scale, l.scale)
	}
	for c := range columns(m) {
		if form.choose(c) {
			form.clear(c)
		}
	}
	return form
}

// choose moves a row that is not 0 in column c behind the rows with pivots, if there is one.
func (form *echelon) choose(c int) bool {
	rest := form.rows[len(form.pivots):]
	i := slices.IndexFunc(rest, func(row []api.Rat) bool { return rational.Sign(row[c]) != 0 })
	if i > 0 {
		rest[0], rest[i] = rest[i], rest[0]
		form.scale = rational.Neg(form.scale)
	}
	return i >= 0
}

// clear makes the number in column c of the first row without a pivot a pivot, and zeros of those below it.
func (form *echelon) clear(c int) {
	rest := form.rows[len(form.pivots):]
	top := rest[0]
	for _, row := range rest[1:] {
		factor := row[c]
		row[c] = api.Rat{}
		for j := c + 1; j < len(row); j++ {
			cross := rational.Sub(rational.Mul(top[c], row[j]), rational.Mul(factor, top[j]))
			row[j] = quotient(cross, form.last)
		}
	}
	form.pivots = append(form.pivots, c)
	form.last = top[c]
}

// free returns the columns without pivots.
func (form *echelon) free() []int {
	var list []int
	for c := range columns(form.rows) {
		if !slices.Contains(form.pivots, c) {
			list = append(list, c)
		}
	}
	return list
}

// reducedColumn returns what the rows with pivots have in column c of the reduced form. The columns with pivots, times these numbers, add up to column c.
func (form *echelon) reducedColumn(c int) []api.Rat {
	// The last pivot is a determinant of the columns with pivots, so that by Cramer's rule it makes these numbers integers.
	times := make([]api.Rat, len(form.pivots))
	for i := len(times) - 1; i >= 0; i-- {
		row := form.rows[i]
		sum := rational.Mul(form.last, row[c])
		for k := i + 1; k < len(times); k++ {
			sum = rational.Sub(sum, rational.Mul(row[form.pivots[k]], times[k]))
		}
		times[i] = quotient(sum, row[form.pivots[i]])
	}
	for i, x := range times {
		times[i] = quotient(x, form.last)
	}
	return times
}

// reduced returns the reduced form.
func (form *echelon) reduced() [][]api.Rat {
	r := make([][]api.Rat, len(form.rows))
	for i := range r {
		r[i] = make([]api.Rat, columns(form.rows))
	}
	for i, c := range form.pivots {
		r[i][c] = rational.FromInt(1)
	}
	for _, c := range form.free() {
		for i, x := range form.reducedColumn(c) {
			r[i][c] = x
		}
	}
	return r
}

// Reduce returns the reduced row echelon form and the columns of its pivots.
func Reduce(m [][]api.Rat) (r [][]api.Rat, pivots []int, e api.Errno) {
	if !isWellFormed(m) {
		return nil, nil, api.ErrShape
	}
	form := eliminate(m)
	return form.reduced(), form.pivots, api.OK
}

// Rank returns the rank.
func Rank(m [][]api.Rat) (int, api.Errno) {
	if !isWellFormed(m) {
		return 0, api.ErrShape
	}
	return len(eliminate(m).pivots), api.OK
}

// Det returns the determinant.
func Det(m [][]api.Rat) (api.Rat, api.Errno) {
	if !isWellFormed(m) || columns(m) != len(m) {
		return api.Rat{}, api.ErrShape
	}
	form := eliminate(m)
	if len(form.pivots) < len(m) {
		return api.Rat{}, api.OK
	}
	return quotient(form.last, form.scale), api.OK
}
