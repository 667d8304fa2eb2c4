package leastsq_test

import (
	"fmt"
	"math/rand/v2"
	"strings"
	"testing"

	"robuststats/api"
	"robuststats/design"
	"robuststats/leastsq"
	"robuststats/rational"
)

// P13.1: fits that are known, the chapter's example first.
func TestFit(t *testing.T) {
	for _, v := range []struct{ x, y, want string }{
		{"1 0; 1 1; 1 2", "0 1 1", "rank 2, used [true true], coef 1/6 1/2, residuals -1/6 1/3 -1/6, rss 1/6, leverage 5/6 1/3 5/6"},
		{"1; 1; 1; 1", "1 2 4 9", "rank 1, used [true], coef 4, residuals -3 -2 0 5, rss 38, leverage 1/4 1/4 1/4 1/4"},
		{"1", "7", "rank 1, used [true], coef 7, residuals 0, rss 0, leverage 1"},
		{"-3", "7/2", "rank 1, used [true], coef -7/6, residuals 0, rss 0, leverage 1"},
		{"0", "7", "rank 0, used [false], coef 0, residuals 7, rss 49, leverage 0"},
		{"0 0; 0 0", "1/2 1/3", "rank 0, used [false false], coef 0 0, residuals 1/2 1/3, rss 13/36, leverage 0 0"},
		{"1; 0; 2", "0 5 0", "rank 1, used [true], coef 0, residuals 0 5 0, rss 25, leverage 1/5 0 4/5"},
		{"1/2; 1/3", "1 1", "rank 1, used [true], coef 30/13, residuals -2/13 3/13, rss 1/13, leverage 9/13 4/13"},
		{"1 0; 0 1; 0 0", "3 -4 5", "rank 2, used [true true], coef 3 -4, residuals 0 0 5, rss 25, leverage 1 1 0"},
		{"2 1; 1 1", "1/7 0", "rank 2, used [true true], coef 1/7 -1/7, residuals 0 0, rss 0, leverage 1 1"},
	} {
		fits(t, rows(t, v.x), list(t, v.y), v.want)
	}
}

// P13.1: columns that depend on earlier ones have the coefficient 0, wherever they stand.
func TestDependentColumns(t *testing.T) {
	rest := "residuals -1/6 1/3 -1/6, rss 1/6, leverage 5/6 1/3 5/6"
	for _, v := range []struct{ x, want string }{
		{"1 2 0; 1 2 1; 1 2 2", "rank 2, used [true false true], coef 1/6 0 1/2, " + rest},
		{"0 1 0; 0 1 1; 0 1 2", "rank 2, used [false true true], coef 0 1/6 1/2, " + rest},
		{"1 0 1; 1 1 2; 1 2 3", "rank 2, used [true true false], coef 1/6 1/2 0, " + rest},
		{"1 1 0; 1 2 1; 1 3 2", "rank 2, used [true true false], coef -1/3 1/2 0, " + rest},
		{"0 1 1 0 0 1; 1 1 2 2 0 1; 2 1 3 4 0 1", "rank 2, used [true true false false false false], coef 1/2 1/6 0 0 0 0, " + rest},
	} {
		fits(t, rows(t, v.x), list(t, "0 1 1"), v.want)
	}
	fits(t, rows(t, "1 2 3"), list(t, "6"), "rank 1, used [true false false], coef 6 0 0, residuals 0, rss 0, leverage 1")
	fits(t, rows(t, "0 2 3; 0 4 7; 0 0 0"), list(t, "1 2 9"), "rank 2, used [false true true], coef 0 1/2 0, residuals 0 0 9, rss 81, leverage 1 1 0")
	fits(t, rows(t, strings.Repeat("0 ", 11)+"2"), list(t, "5"), "rank 1, used ["+strings.Repeat("false ", 11)+"true], coef "+strings.Repeat("0 ", 11)+"5/2, residuals 0, rss 0, leverage 1")
}

// P13.1: drawn matrices, compared with the fit by orthogonal directions.
func TestDrawnFit(t *testing.T) {
	random := rand.New(rand.NewPCG(13, 1))
	dependent := 0
	for range 1500 {
		n, width := 1+random.IntN(9), 1+random.IntN(5)
		x, y := drawnRows(random, n, width), drawnList(random, n)
		if f := fits(t, x, y, expectedFit(x, y)); f.Rank < min(n, width) {
			dependent++
		}
	}
	if dependent < 300 {
		t.Errorf("only %d with dependent columns", dependent)
	}
}

// P13.1: the largest matrices, and the widest one for a single row.
func TestLargeFit(t *testing.T) {
	random := rand.New(rand.NewPCG(13, 2))
	for _, size := range [][2]int{{64, 12}, {64, 1}, {12, 12}, {13, 12}, {2, 12}, {1, 12}} {
		x, y := zeros(size[0], size[1]), make([]api.Rat, size[0])
		for i, row := range x {
			for j := range row {
				row[j] = rational.FromInt(random.IntN(19) - 9)
			}
			y[i] = rational.FromInt(random.IntN(99) - 49)
		}
		fits(t, x, y, expectedFit(x, y))
	}
}

// P13.1: numbers of many digits, and fractions with different denominators.
func TestLongNumbers(t *testing.T) {
	long := strings.Repeat("9", 60)
	x := rows(t, "1 "+long+"/7; 1/"+long+" 2; 3/1000000007 -"+long+"; 0 1/998244353")
	y := list(t, "1/3 "+long+" 5/"+long+" -2/1000003")
	fits(t, x, y, expectedFit(x, y))
	random := rand.New(rand.NewPCG(13, 3))
	x, y = nil, nil
	for range 20 {
		x = append(x, list(t, fmt.Sprintf("1 %d/%d %d/%d", random.IntN(1000000), 1+random.IntN(1000000), random.IntN(1000000), 1+random.IntN(1000000))))
		y = append(y, number(t, fmt.Sprintf("%d/%d", random.IntN(1000000), 1+random.IntN(1000000))))
	}
	fits(t, x, y, expectedFit(x, y))
}

// P13.1: Rank and Used are those of design.Alias.
func TestUsedColumns(t *testing.T) {
	random := rand.New(rand.NewPCG(13, 4))
	for range 500 {
		n, width := 1+random.IntN(6), 1+random.IntN(12)
		x := drawnRows(random, n, width)
		f, e := leastsq.Fit(x, drawnList(random, n))
		used, _, _ := design.Alias(x)
		rank := 0
		for j, is := range used {
			if is {
				rank++
			} else if rational.Sign(f.Coef[j]) != 0 {
				t.Errorf("%s: coefficient %d is %s", showRows(x), j, rational.Format(f.Coef[j]))
			}
		}
		if fmt.Sprint(f.Used) != fmt.Sprint(used) || f.Rank != rank || e != api.OK {
			t.Errorf("%s: rank %d, %v, error %d, not %d, %v", showRows(x), f.Rank, f.Used, e, rank, used)
		}
	}
}

// P13.1: Leverage is the diagonal of the projection, which takes the row's own unit vector to what its fit leaves of it.
func TestLeverage(t *testing.T) {
	random := rand.New(rand.NewPCG(13, 5))
	for range 200 {
		n := 1 + random.IntN(7)
		x := drawnRows(random, n, 1+random.IntN(4))
		f, _ := leastsq.Fit(x, drawnList(random, n))
		for i := range x {
			unit := make([]api.Rat, n)
			unit[i] = rational.FromInt(1)
			g, e := leastsq.Fit(x, unit)
			if left := rational.Sub(unit[i], g.Residuals[i]); rational.Compare(left, f.Leverage[i]) != 0 || e != api.OK {
				t.Errorf("%s: leverage %d is %s, not %s, error %d", showRows(x), i, rational.Format(f.Leverage[i]), rational.Format(left), e)
			}
		}
	}
}

// residualsAre expects residuals, in valid numbers.
func residualsAre(t *testing.T, x [][]api.Rat, y, b []api.Rat, want string) {
	t.Helper()
	r, e := leastsq.Residuals(x, y, b)
	if show(r) != want || e != api.OK || !areValid(r) {
		t.Errorf("%.400s, y %.200s, b %.200s: %.400s, error %d, not %.400s", showRows(x), show(y), show(b), show(r), e, want)
	}
}

// P13.1: the residuals of any coefficients.
func TestResiduals(t *testing.T) {
	for _, v := range []struct{ x, y, b, want string }{
		{"1 2; 3 4", "5 6", "1 -1", "6 7"}, {"1 0; 1 1; 1 2", "0 1 1", "1/6 1/2", "-1/6 1/3 -1/6"}, {"1 0; 1 1; 1 2", "0 1 1", "0 0", "0 1 1"}, {"2", "6", "3", "0"}, {"1/2 1/3", "1/4", "1/5 1/6", "17/180"},
		{"1 1; 2 2", "0 0", "3 -3", "0 0"}, {"0 0; 0 0", "1 -1", "99 1/99", "1 -1"}, {"1; 1; 1", "-1 0 1", "-1/7", "-6/7 1/7 8/7"}, {"10000000000 1", "1", "1/10000000000 -10000000000", "10000000000"},
	} {
		residualsAre(t, rows(t, v.x), list(t, v.y), list(t, v.b), v.want)
	}
	residualsAre(t, zeros(64, 12), make([]api.Rat, 64), make([]api.Rat, 12), strings.TrimSpace(strings.Repeat("0 ", 64)))
}

// P13.1: drawn residuals, row by row.
func TestDrawnResiduals(t *testing.T) {
	random := rand.New(rand.NewPCG(13, 6))
	for range 1000 {
		n, width := 1+random.IntN(9), 1+random.IntN(12)
		x, y, b := drawnRows(random, n, width), drawnList(random, n), drawnList(random, width)
		want := meaning(y)
		for i, row := range x {
			want[i].Sub(want[i], dot(meaning(row), meaning(b)))
		}
		residualsAre(t, x, y, b, show(represent(want)))
	}
}
