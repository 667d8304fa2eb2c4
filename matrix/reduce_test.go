package matrix_test

import (
	"math/big"
	"math/rand/v2"
	"slices"
	"testing"

	"robuststats/api"
	"robuststats/matrix"
)

// P6.3

func TestReduce(t *testing.T) {
	matrices, _ := broken(t)
	for _, m := range append(samples(t), matrices...) {
		want, columns := gauss(meaning(m))
		got, pivots, e := matrix.Reduce(m)
		same(t, "reduced form of "+show(m), got, want)
		if !slices.Equal(pivots, columns) || e != api.OK {
			t.Errorf("%s: %v %v", show(m), pivots, e)
		}
		if rank, e := matrix.Rank(m); rank != len(columns) || e != api.OK {
			t.Errorf("%s: %d %v", show(m), rank, e)
		}
		if rank, e := matrix.Rank(turned(m)); rank != len(columns) || e != api.OK {
			t.Errorf("%s, transposed: %d %v", show(m), rank, e)
		}
	}
}

func TestReduceExamples(t *testing.T) {
	for _, x := range []struct {
		m, reduced string
		pivots     []int
	}{
		{"", "", nil}, {"0", "0", nil}, {"-7/3", "1", []int{0}}, {"0 2; 1 1", "1 0; 0 1", []int{0, 1}}, {"1 2 0", "1 2 0", []int{0}}, {"0 0; 0 0; 0 0", "0 0; 0 0; 0 0", nil}, {"2 4 6; 1 2 4; 0 0 1", "1 2 0; 0 0 1; 0 0 0", []int{0, 2}},
		{"0 3 1; 0 6 2", "0 1 1/3; 0 0 0", []int{1}}, {"1; 2; 3", "1; 0; 0", []int{0}}, {"0; 0; 3", "1; 0; 0", []int{0}}, {"0 0 1; 0 0 2; 0 1 5; 0 0 0", "0 1 0; 0 0 1; 0 0 0; 0 0 0", []int{1, 2}}, {"1/2 1/3 1; 1/4 1/5 1", "1 0 -8; 0 1 15", []int{0, 1}},
		{"1 2 0 3 1; 1 2 1 1 1; 2 4 1 4 3", "1 2 0 3 0; 0 0 1 -2 0; 0 0 0 0 1", []int{0, 2, 4}},
	} {
		if got, pivots, e := matrix.Reduce(table(t, x.m)); show(got) != x.reduced || !slices.Equal(pivots, x.pivots) || e != api.OK {
			t.Errorf("%s: %s %v %v", x.m, show(got), pivots, e)
		}
		if rank, e := matrix.Rank(table(t, x.m)); rank != len(x.pivots) || e != api.OK {
			t.Errorf("%s: %d %v", x.m, rank, e)
		}
	}
}

// The form has the properties that the promise lists, also where the matrix is as large as it may be.
func TestReduceLarge(t *testing.T) {
	random := rand.New(rand.NewPCG(6, 2))
	for _, size := range [][3]int{{api.MaxSide, api.MaxSide, 3}, {api.MaxSide, 20, 15}, {12, api.MaxSide, 10}, {30, 30, 30}, {1, api.MaxSide, 1}, {api.MaxSide, 1, 1}} {
		m, e := matrix.Mul(drawn(random, size[0], size[2], 1, false), drawn(random, size[2], size[1], 5, size[2] > 1))
		r, pivots, f := matrix.Reduce(m)
		if len(pivots) != size[2] || len(r) != size[0] || e != api.OK || f != api.OK {
			t.Fatalf("%v: %v %v %v", size, pivots, e, f)
		}
		checkForm(t, meaning(r), pivots)
		checkRows(t, meaning(m), meaning(r), pivots)
	}
}

// checkForm checks a reduced row echelon form in the words of the promise.
func checkForm(t *testing.T, r [][]*big.Rat, pivots []int) {
	t.Helper()
	if !slices.IsSorted(pivots) {
		t.Errorf("%v", pivots)
	}
	for i, row := range r {
		first := slices.IndexFunc(row, func(x *big.Rat) bool { return x.Sign() != 0 })
		if i >= len(pivots) {
			if first >= 0 {
				t.Errorf("row %d is not 0: %v", i, row)
			}
			continue
		}
		if first != pivots[i] || row[first].Cmp(big.NewRat(1, 1)) != 0 {
			t.Fatalf("row %d: %v", i, row)
		}
		for k := range r {
			if k != i && r[k][first].Sign() != 0 {
				t.Errorf("%v in row %d above or below the pivot of row %d", r[k][first], k, i)
			}
		}
	}
}

// checkRows checks that the rows of m are sums of multiples of the rows of its form: the multiples are what they have at the pivots.
func checkRows(t *testing.T, m, r [][]*big.Rat, pivots []int) {
	t.Helper()
	for i, row := range m {
		row = slices.Clone(row)
		for k, c := range pivots {
			subtract(row, row[c], r[k])
		}
		if slices.ContainsFunc(row, func(x *big.Rat) bool { return x.Sign() != 0 }) {
			t.Errorf("row %d is not in the space of the form's rows", i)
		}
	}
}

// P6.4

func TestDet(t *testing.T) {
	matrices, _ := broken(t)
	for _, m := range append(samples(t), matrices...) {
		got, e := matrix.Det(m)
		if width(m) != len(m) {
			if !equal(got, api.Rat{}) || e != api.ErrShape {
				t.Errorf("%s: %v %v", show(m), got, e)
			}
			continue
		}
		sameList(t, "determinant of "+show(m), []api.Rat{got}, []*big.Rat{expanded(meaning(m))})
		if e != api.OK {
			t.Errorf("%s: %v", show(m), e)
		}
	}
}

func TestDetExamples(t *testing.T) {
	for m, want := range map[string]string{
		"": "1", "5": "5", "0": "0", "-2/3": "-2/3", "0 1; 1 0": "-1", "1 2; 3 4": "-2", "2 4; 1 2": "0", "0 0 2; 0 3 0; 5 0 0": "-30", "0 1 0; 0 0 1; 1 0 0": "1", "1/2 1/3; 1/4 1/5": "1/60", "1/2 0; 0 1/2": "1/4", "0 1/3; 1/5 0": "-1/15", "1 2 3; 4 5 6; 7 8 9": "0", "0 1 2; 0 3 4; 0 5 6": "0",
	} {
		if got, e := matrix.Det(table(t, m)); showList([]api.Rat{got}) != want || e != api.OK {
			t.Errorf("%s: %v %v", m, got, e)
		}
	}
}

// A consequence of the promises: the determinant of a product is the product of the determinants.
func TestDetOfProduct(t *testing.T) {
	for _, a := range squares(t) {
		for _, b := range squares(t) {
			if len(a) != len(b) {
				continue
			}
			ab, _ := matrix.Mul(a, b)
			x, _ := matrix.Det(a)
			y, _ := matrix.Det(b)
			got, e := matrix.Det(ab)
			sameList(t, show(a)+" and "+show(b), []api.Rat{got}, []*big.Rat{new(big.Rat).Mul(toBig(x), toBig(y))})
			if e != api.OK {
				t.Errorf("%s and %s: %v", show(a), show(b), e)
			}
		}
	}
}

// band is the matrix with 2 in its diagonal and -1 beside it. Its determinant is n + 1.
func band(n int) [][]*big.Rat {
	rows := unit(n)
	for i, row := range rows {
		for j := range row {
			switch {
			case i == j:
				row[j].SetInt64(2)
			case i-j == 1 || j-i == 1:
				row[j].SetInt64(-1)
			}
		}
	}
	return rows
}

func TestDetLarge(t *testing.T) {
	m := band(api.MaxSide)
	if d, e := matrix.Det(represent(m)); showList([]api.Rat{d}) != "97" || e != api.OK {
		t.Errorf("%v %v", d, e)
	}
	// The order of the rows turned around is a product of 48 exchanges, those of the first 95 rows one of 47.
	slices.Reverse(m)
	if d, e := matrix.Det(represent(m)); showList([]api.Rat{d}) != "97" || e != api.OK {
		t.Errorf("%v %v", d, e)
	}
	slices.Reverse(m[:api.MaxSide-1])
	if d, e := matrix.Det(represent(m)); showList([]api.Rat{d}) != "-97" || e != api.OK {
		t.Errorf("%v %v", d, e)
	}
}
