package contrast_test

import (
	"fmt"
	"slices"
	"strconv"
	"strings"
	"testing"

	"robuststats/api"
	"robuststats/contrast"
	"robuststats/rational"
)

var codings = []int{api.Treatment, api.SumToZero, api.Helmert, api.Indicator}

// show writes a matrix, with a semicolon between two rows.
func show(m [][]api.Rat) string {
	var rows []string
	for _, row := range m {
		var list []string
		for _, x := range row {
			list = append(list, rational.Format(x))
		}
		rows = append(rows, strings.Join(list, " "))
	}
	return strings.Join(rows, "; ")
}

// hasMatrix expects a matrix. Rows without numbers do not show in its text, so that all lengths are compared, too.
func hasMatrix(t *testing.T, coding, levels, columns int, want string) {
	t.Helper()
	m, e := contrast.Matrix(coding, levels)
	if show(m) != want || e != api.OK || len(m) != levels {
		t.Errorf("coding %d, %d levels: %d rows %s, error %d, not %s", coding, levels, len(m), show(m), e, want)
	}
	for i, row := range m {
		if len(row) != columns {
			t.Errorf("coding %d, %d levels: row %d has %d numbers, not %d", coding, levels, i, len(row), columns)
		}
	}
}

// hasNames expects names.
func hasNames(t *testing.T, coding int, levels []string, want ...string) {
	t.Helper()
	if got, e := contrast.Names(coding, levels); !slices.Equal(got, want) || e != api.OK {
		t.Errorf("coding %d, levels %.300q: %.300q, error %d, not %.300q", coding, levels, got, e, want)
	}
}

// outOfRange expects ErrRange, and no result, of both functions.
func outOfRange(t *testing.T, coding, levels int) {
	t.Helper()
	if m, e := contrast.Matrix(coding, levels); len(m) > 0 || e != api.ErrRange {
		t.Errorf("coding %d, %d levels: matrix %s, error %d", coding, levels, show(m), e)
	}
	if levels >= 0 && levels <= 1<<20 {
		noNames(t, coding, make([]string, levels))
	}
}

func noNames(t *testing.T, coding int, levels []string) {
	t.Helper()
	if names, e := contrast.Names(coding, levels); len(names) > 0 || e != api.ErrRange {
		t.Errorf("coding %d, %d levels: names %q, error %d", coding, len(levels), names, e)
	}
}

// expected is P11.1: it writes the numbers that are not 0 into a matrix of zeros.
func expected(coding, levels int) string {
	columns := levels - 1
	if coding == api.Indicator {
		columns = levels
	}
	m := make([][]int, levels)
	for i := range m {
		m[i] = make([]int, columns)
	}
	for j := range columns {
		switch coding {
		case api.Indicator:
			m[j][j] = 1
		case api.Treatment:
			m[j+1][j] = 1
		case api.SumToZero:
			m[j][j], m[levels-1][j] = 1, -1
		case api.Helmert:
			for i := 0; i <= j; i++ {
				m[i][j] = -1
			}
			m[j+1][j] = j + 1
		}
	}
	var rows []string
	for _, row := range m {
		rows = append(rows, strings.Trim(fmt.Sprint(row), "[]"))
	}
	return strings.Join(rows, "; ")
}

// expectedNames is P11.2.
func expectedNames(coding int, levels []string) []string {
	var names []string
	for i, level := range levels {
		switch {
		case coding == api.Indicator || coding == api.Treatment && i > 0:
			names = append(names, "="+level)
		case coding != api.Treatment && i > 0:
			names = append(names, "."+strconv.Itoa(i))
		}
	}
	return names
}

// levels is a list of so many different texts.
func levels(n int) []string {
	var list []string
	for i := range n {
		list = append(list, "level "+strconv.Itoa(i))
	}
	return list
}

// results writes what both functions say of a coding.
func results(coding int, levels []string) string {
	m, e := contrast.Matrix(coding, len(levels))
	names, f := contrast.Names(coding, levels)
	return fmt.Sprintf("%s %d %q %d", show(m), e, names, f)
}
