package contrast_test

import (
	"math"
	"slices"
	"testing"

	"robuststats/api"
	"robuststats/contrast"
	"robuststats/matrix"
	"robuststats/rational"
)

// P11.1: a column of its own for each level.
func TestIndicator(t *testing.T) {
	hasMatrix(t, api.Indicator, 1, 1, "1")
	hasMatrix(t, api.Indicator, 2, 2, "1 0; 0 1")
	hasMatrix(t, api.Indicator, 3, 3, "1 0 0; 0 1 0; 0 0 1")
	hasMatrix(t, api.Indicator, 4, 4, "1 0 0 0; 0 1 0 0; 0 0 1 0; 0 0 0 1")
}

// P11.1: a column for each level but the first one.
func TestTreatment(t *testing.T) {
	hasMatrix(t, api.Treatment, 2, 1, "0; 1")
	hasMatrix(t, api.Treatment, 3, 2, "0 0; 1 0; 0 1")
	hasMatrix(t, api.Treatment, 4, 3, "0 0 0; 1 0 0; 0 1 0; 0 0 1")
}

// P11.1: the last row is -1 everywhere.
func TestSumToZero(t *testing.T) {
	hasMatrix(t, api.SumToZero, 2, 1, "1; -1")
	hasMatrix(t, api.SumToZero, 3, 2, "1 0; 0 1; -1 -1")
	hasMatrix(t, api.SumToZero, 4, 3, "1 0 0; 0 1 0; 0 0 1; -1 -1 -1")
}

// P11.1 and the example: a level and those before it.
func TestHelmert(t *testing.T) {
	hasMatrix(t, api.Helmert, 2, 1, "-1; 1")
	hasMatrix(t, api.Helmert, 3, 2, "-1 -1; 1 -1; 0 2")
	hasMatrix(t, api.Helmert, 4, 3, "-1 -1 -1; 1 -1 -1; 0 2 -1; 0 0 3")
	hasMatrix(t, api.Helmert, 5, 4, "-1 -1 -1 -1; 1 -1 -1 -1; 0 2 -1 -1; 0 0 3 -1; 0 0 0 4")
}

// P11.1: one row without numbers.
func TestOneLevel(t *testing.T) {
	hasMatrix(t, api.Treatment, 1, 0, "")
	hasMatrix(t, api.SumToZero, 1, 0, "")
	hasMatrix(t, api.Helmert, 1, 0, "")
}

// P11.1: all matrices there are, compared with the chapter's words.
func TestAllMatrices(t *testing.T) {
	for _, coding := range codings {
		for levels := 1; levels <= 32; levels++ {
			columns := levels - 1
			if coding == api.Indicator {
				columns = levels
			}
			hasMatrix(t, coding, levels, columns, expected(coding, levels))
		}
	}
}

// P11.1 and P11.2: a coding is none of the four.
func TestRangeOfCodings(t *testing.T) {
	for _, coding := range []int{math.MinInt, -1 << 32, -4, -3, -2, -1, 0, 5, 6, 7, 8, 255, 256, 257, 1 << 32, 1<<32 + 1, math.MaxInt} {
		for levels := 1; levels <= 32; levels++ {
			outOfRange(t, coding, levels)
		}
		outOfRange(t, coding, 0)
		outOfRange(t, coding, 33)
	}
}

// P11.1 and P11.2: the number of levels.
func TestRangeOfLevels(t *testing.T) {
	for _, coding := range codings {
		for _, levels := range []int{math.MinInt, -1 << 32, -32, -1, 0, 33, 34, 64, 256, 257, 1 << 16, 1 << 20, 1 << 32, 1<<32 + 1, 1 << 40, math.MaxInt - 1, math.MaxInt} {
			outOfRange(t, coding, levels)
		}
	}
}

// matrixOf returns a matrix that there must be.
func matrixOf(t *testing.T, coding, levels int) [][]api.Rat {
	t.Helper()
	m, e := contrast.Matrix(coding, levels)
	if e != api.OK {
		t.Fatalf("coding %d, %d levels: error %d", coding, levels, e)
	}
	return m
}

// Consequences: the rank with a column of ones beside the matrix.
func TestRank(t *testing.T) {
	one := rational.FromInt(1)
	for _, coding := range codings {
		for levels := 1; levels <= 32; levels++ {
			m := matrixOf(t, coding, levels)
			for i := range m {
				m[i] = append([]api.Rat{one}, m[i]...)
			}
			if rank, e := matrix.Rank(m); rank != levels || e != api.OK {
				t.Errorf("coding %d, %d levels: rank %d, error %d", coding, levels, rank, e)
			}
		}
	}
}

// product is the sum of the products of two columns.
func product(m [][]api.Rat, j, k int) api.Rat {
	var sum api.Rat
	for _, row := range m {
		sum = rational.Add(sum, rational.Mul(row[j], row[k]))
	}
	return sum
}

// Consequences: the columns of SumToZero and of Helmert have the sum 0, and those of Helmert are orthogonal.
func TestSumsOfColumns(t *testing.T) {
	for _, coding := range []int{api.SumToZero, api.Helmert} {
		for levels := 1; levels <= 32; levels++ {
			m := matrixOf(t, coding, levels)
			for j := range m[0] {
				var sum api.Rat
				for _, row := range m {
					sum = rational.Add(sum, row[j])
				}
				if rational.Sign(sum) != 0 {
					t.Errorf("coding %d, %d levels: column %d has the sum %s", coding, levels, j, rational.Format(sum))
				}
				for k := range j {
					if x := product(m, j, k); coding == api.Helmert && rational.Sign(x) != 0 {
						t.Errorf("%d levels: the product of the columns %d and %d is %s", levels, j, k, rational.Format(x))
					}
				}
			}
		}
	}
}

// R7: all numbers are valid.
func TestNumbersAreValid(t *testing.T) {
	for _, coding := range codings {
		for levels := 1; levels <= 32; levels++ {
			for i, row := range matrixOf(t, coding, levels) {
				if slices.ContainsFunc(row, func(x api.Rat) bool { return !rational.Valid(x) }) {
					t.Errorf("coding %d, %d levels: row %d is %v", coding, levels, i, row)
				}
			}
		}
	}
}
