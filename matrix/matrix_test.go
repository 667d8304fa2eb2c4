package matrix_test

import (
	"slices"
	"testing"

	"robuststats/api"
	"robuststats/matrix"
)

// P6.1

func TestValid(t *testing.T) {
	for _, m := range samples(t) {
		if !matrix.Valid(m) {
			t.Errorf("%s is not valid", show(m))
		}
	}
	for i, m := range misshapen(t) {
		if matrix.Valid(m) {
			t.Errorf("list %d of rows is valid", i)
		}
	}
	for _, bad := range invalid() {
		for i := range 6 {
			m := table(t, "1 2; 3 1/4; 5 6")
			m[i/2][i%2] = bad
			if matrix.Valid(m) {
				t.Errorf("%v is valid", m)
			}
		}
	}
}

func TestSides(t *testing.T) {
	long := make([]api.Rat, api.MaxSide)
	long[api.MaxSide-1] = number(t, "2")
	row := [][]api.Rat{long}
	if column, e := matrix.Transpose(row); !matrix.Valid(row) || !matrix.Valid(column) || len(column) != api.MaxSide || e != api.OK {
		t.Errorf("%s %v", show(column), e)
	}
	outer, e := matrix.Mul(turned(row), row)
	if rank, f := matrix.Rank(outer); !matrix.Valid(outer) || rank != 1 || e != api.OK || f != api.OK {
		t.Errorf("%v %d %v", e, rank, f)
	}
	if d, e := matrix.Det(outer); !equal(d, api.Rat{}) || e != api.OK {
		t.Errorf("%v %v", d, e)
	}
	if _, e := matrix.Inverse(outer); e != api.ErrSingular {
		t.Errorf("%v", e)
	}
	if null, e := matrix.Null(outer); len(null) != api.MaxSide-1 || e != api.OK {
		t.Errorf("%d %v", len(null), e)
	}
	if inner, e := matrix.Mul(row, turned(row)); show(inner) != "4" || e != api.OK {
		t.Errorf("%s %v", show(inner), e)
	}
}

// checkShapeError fails the test unless all functions return ErrShape, without other results.
func checkShapeError(t *testing.T, i int, a, b [][]api.Rat, v []api.Rat) {
	t.Helper()
	for k, e := range codes(a, b, v) {
		if e != api.ErrShape {
			t.Errorf("list %d of rows, function %d: %v", i, k, e)
		}
	}
	_, pivots, _ := matrix.Reduce(a)
	rank, _ := matrix.Rank(a)
	if len(pivots)+rank != 0 {
		t.Errorf("list %d of rows: %v %d", i, pivots, rank)
	}
	if got := results(a, b, v); !slices.EqualFunc(got, [][][]api.Rat{nil, nil, {nil}, nil, {{{}}}, nil, {nil}, nil}, func(x, y [][]api.Rat) bool { return slices.EqualFunc(x, y, equalLists) }) {
		t.Errorf("list %d of rows: %v", i, got)
	}
}

func TestShapeError(t *testing.T) {
	for i, m := range misshapen(t) {
		for _, other := range append(samples(t)[:10], m) {
			checkShapeError(t, i, m, other, nil)
			if got, e := matrix.Mul(other, m); len(got) != 0 || e != api.ErrShape {
				t.Errorf("list %d of rows on the right: %v %v", i, got, e)
			}
		}
		// Lists that would fit if the rows were those of a matrix.
		checkShapeError(t, i, m, make([][]api.Rat, width(m)), make([]api.Rat, width(m)))
		checkShapeError(t, i, m, nil, make([]api.Rat, len(m)))
	}
}

// P6.2

func TestTranspose(t *testing.T) {
	matrices, _ := broken(t)
	for _, m := range append(samples(t), matrices...) {
		got, e := matrix.Transpose(m)
		same(t, show(m), got, turned(meaning(m)))
		if e != api.OK {
			t.Errorf("%s: %v", show(m), e)
		}
	}
	for _, x := range [][2]string{{"", ""}, {"1 2 3; 4 5 6", "1 4; 2 5; 3 6"}, {"1; 2", "1 2"}, {"1 -1/2", "1; -1/2"}, {"7", "7"}} {
		if got, e := matrix.Transpose(table(t, x[0])); show(got) != x[1] || e != api.OK {
			t.Errorf("%s: %s %v", x[0], show(got), e)
		}
	}
}

func TestMul(t *testing.T) {
	matrices, _ := broken(t)
	all := append(samples(t), matrices...)
	for _, a := range all {
		for _, b := range all {
			got, e := matrix.Mul(a, b)
			if width(a) != len(b) {
				if len(got) != 0 || e != api.ErrShape {
					t.Errorf("%s and %s: %s %v", show(a), show(b), show(got), e)
				}
				continue
			}
			same(t, show(a)+" and "+show(b), got, product(meaning(a), meaning(b)))
			if e != api.OK {
				t.Errorf("%s and %s: %v", show(a), show(b), e)
			}
		}
	}
}

func TestMulExamples(t *testing.T) {
	for _, x := range [][3]string{{"", "", ""}, {"1 2; 3 4", "0 1 1/2; 1 0 -1", "2 1 -3/2; 4 3 -5/2"}, {"1 2 3", "1; 1; 1", "6"}, {"1; 2", "3 4", "3 4; 6 8"}, {"1/2 1/3", "1/5; 1/7", "31/210"}, {"1/2 1/2", "1; 1", "1"}, {"1/6 1/10; 1 2", "3 1/2; 5 -1/4", "1 7/120; 13 0"}} {
		if got, e := matrix.Mul(table(t, x[0]), table(t, x[1])); show(got) != x[2] || e != api.OK {
			t.Errorf("%s and %s: %s %v", x[0], x[1], show(got), e)
		}
	}
	for _, x := range [][2]string{{"", "1"}, {"1", ""}, {"1 2", "1 2"}, {"1; 2", "1; 2"}, {"1 2; 3 4", "1 2 3"}, {"1 2; 3 4", "1; 2; 3"}} {
		if got, e := matrix.Mul(table(t, x[0]), table(t, x[1])); len(got) != 0 || e != api.ErrShape {
			t.Errorf("%s and %s: %s %v", x[0], x[1], show(got), e)
		}
	}
}

func TestApply(t *testing.T) {
	matrices, _ := broken(t)
	all := append(samples(t), matrices...)
	for _, m := range all {
		for _, rows := range all {
			if len(rows) == 0 {
				continue
			}
			v := rows[len(rows)-1]
			got, e := matrix.Apply(m, v)
			if width(m) != len(v) {
				if len(got) != 0 || e != api.ErrShape {
					t.Errorf("%s and %s: %s %v", show(m), showList(v), showList(got), e)
				}
				continue
			}
			sameList(t, show(m)+" and "+showList(v), got, applied(meaning(m), meaningOf(v)))
			if e != api.OK {
				t.Errorf("%s and %s: %v", show(m), showList(v), e)
			}
		}
	}
}

func TestApplyExamples(t *testing.T) {
	for _, x := range [][3]string{{"", "", ""}, {"1 2; 3 4; 0 1/2", "1 -1", "-1 -1 -1/2"}, {"1/2 1/3", "1 1", "5/6"}, {"2", "1/2", "1"}} {
		if got, e := matrix.Apply(table(t, x[0]), list(t, x[1])); showList(got) != x[2] || e != api.OK {
			t.Errorf("%s and %s: %s %v", x[0], x[1], showList(got), e)
		}
	}
	for _, x := range [][2]string{{"", "1"}, {"1", ""}, {"1 2; 3 4", "1"}, {"1 2; 3 4", "1 2 3"}, {"1; 2", "1 2"}} {
		if got, e := matrix.Apply(table(t, x[0]), list(t, x[1])); len(got) != 0 || e != api.ErrShape {
			t.Errorf("%s and %s: %s %v", x[0], x[1], showList(got), e)
		}
	}
}
