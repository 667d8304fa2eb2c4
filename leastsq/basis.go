package leastsq

import (
	"robuststats/api"
	"robuststats/matrix"
	"robuststats/rational"
)

// A basis are the used columns of a matrix, each times a positive number, its scale, such that its numbers are integers: sums of products of integers need no common divisors, which take most of the time where fractions have many different denominators.
type basis struct {
	columns [][]api.Rat
	scales  []api.Rat
	// duals are integers, too: the product of a dual with its column is det, and with another column 0.
	duals [][]api.Rat
	det   api.Rat
}

// basisOf returns the basis of the used columns, which do not depend on each other.
func basisOf(x [][]api.Rat, used []bool) basis {
	b := basis{}
	for j, is := range used {
		if is {
			integers, scale := whole(column(x, j))
			b.columns, b.scales = append(b.columns, integers), append(b.scales, scale)
		}
	}
	rows, _ := matrix.Transpose(b.columns)
	products, _ := matrix.Mul(b.columns, rows)
	b.det, _ = matrix.Det(products)
	b.duals, _ = matrix.Mul(adjugate(products, b.det), b.columns)
	return b
}

// adjugate returns the inverse of a matrix of integers times its determinant, which makes it a matrix of integers by Cramer's rule.
func adjugate(m [][]api.Rat, det api.Rat) [][]api.Rat {
	inverse, _ := matrix.Inverse(m)
	for _, row := range inverse {
		for j, x := range row {
			row[j] = rational.Mul(x, det)
		}
	}
	return inverse
}

// coefficients returns those of the used columns of the matrix with which their sum is as close to y as possible.
func (b basis) coefficients(y []api.Rat) []api.Rat {
	list, _ := matrix.Apply(b.duals, y)
	for j, x := range list {
		list[j] = quotient(rational.Mul(x, b.scales[j]), b.det)
	}
	return list
}

// leverages returns the diagonal of the matrix that projects on the space of the columns: the products of the columns' numbers and the duals' in the same row, which are as many as the columns.
func (b basis) leverages(rows int) []api.Rat {
	list := make([]api.Rat, rows)
	for i := range list {
		for j, dual := range b.duals {
			list[i] = rational.Add(list[i], rational.Mul(dual[i], b.columns[j][i]))
		}
		list[i] = quotient(list[i], b.det)
	}
	return list
}

// column returns a column with the limbs of m.
func column(m [][]api.Rat, j int) []api.Rat {
	list := make([]api.Rat, len(m))
	for i, row := range m {
		list[i] = row[j]
	}
	return list
}

// whole returns the least positive number whose products with some numbers are integers, and these products.
func whole(numbers []api.Rat) (integers []api.Rat, scale api.Rat) {
	scale = rational.FromInt(1)
	for _, x := range numbers {
		// What the scale leaves of a denominator is missing in the scale.
		if rest := rational.Mul(scale, x).Den; len(rest) > 0 {
			scale = rational.Mul(scale, api.Rat{Num: api.Int{Mag: rest}})
		}
	}
	integers = make([]api.Rat, len(numbers))
	for i, x := range numbers {
		integers[i] = rational.Mul(scale, x)
	}
	return integers, scale
}

// quotient returns x / y, for a y that is not 0.
func quotient(x, y api.Rat) api.Rat {
	q, _ := rational.Div(x, y)
	return q
}
