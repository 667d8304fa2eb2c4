package leastsq_test

import (
	"math/big"
	"math/rand/v2"
	"slices"
	"strings"
	"testing"

	"robuststats/api"
	"robuststats/leastsq"
	"robuststats/matrix"
	"robuststats/rational"
)

// P13.2: moments that are known.
func TestGather(t *testing.T) {
	for _, v := range []struct{ x, y, want string }{
		{"1 2; 3 -1/2", "5 4", "n 2, xx 10 1/2; 1/2 17/4, xy 17 8, yy 41"}, {"1 0; 1 1; 1 2", "0 1 1", "n 3, xx 3 3; 3 5, xy 2 3, yy 2"}, {"3", "-4", "n 1, xx 9, xy -12, yy 16"}, {"0", "0", "n 1, xx 0, xy 0, yy 0"},
		{"0 0; 0 0", "1/2 1/3", "n 2, xx 0 0; 0 0, xy 0 0, yy 13/36"}, {"1/2 1/3", "1/5", "n 1, xx 1/4 1/6; 1/6 1/9, xy 1/10 1/15, yy 1/25"}, {"1 2 3; 4 5 6", "1 -1", "n 2, xx 17 22 27; 22 29 36; 27 36 45, xy -3 -3 -3, yy 2"},
	} {
		gathers(t, rows(t, v.x), list(t, v.y), v.want)
	}
}

// P13.2: drawn sums, and the longest ones.
func TestDrawnGather(t *testing.T) {
	random := rand.New(rand.NewPCG(13, 11))
	for range 500 {
		n, width := 1+random.IntN(9), 1+random.IntN(6)
		x, y := drawnRows(random, n, width), drawnList(random, n)
		gathers(t, x, y, expectedMoments(x, y))
	}
	for _, size := range [][2]int{{64, 12}, {64, 1}, {1, 12}} {
		x, y := drawnRows(random, size[0], size[1]), drawnList(random, size[0])
		gathers(t, x, y, expectedMoments(x, y))
	}
}

// P13.2: a row more, and a row less.
func TestShift(t *testing.T) {
	m := gathers(t, rows(t, "1 2; 3 -1/2"), list(t, "5 4"), "n 2, xx 10 1/2; 1/2 17/4, xy 17 8, yy 41")
	more := shifts(t, m, list(t, "0 1"), number(t, "-2"), true, "n 3, xx 10 1/2; 1/2 21/4, xy 17 6, yy 45", api.OK)
	shifts(t, more, list(t, "0 1"), number(t, "-2"), false, showMoments(m), api.OK)
	shifts(t, m, list(t, "1 2"), number(t, "5"), false, "n 1, xx 9 -3/2; -3/2 1/4, xy 12 -2, yy 16", api.OK)
	shifts(t, m, list(t, "0 0"), number(t, "0"), false, "n 1, xx 10 1/2; 1/2 17/4, xy 17 8, yy 41", api.OK)
	shifts(t, m, list(t, "10 1/2"), number(t, "1/3"), false, "n 1, xx -90 -9/2; -9/2 4, xy 41/3 47/6, yy 368/9", api.OK)
	shifts(t, api.Moments{}, nil, number(t, "3"), true, "n 1, xx , xy -, yy 9", api.OK)
	shifts(t, api.Moments{N: 1, YY: number(t, "9")}, nil, number(t, "-3"), false, "n 0, xx , xy -, yy 0", api.OK)
}

// P13.2: the sums of the row are added to any numbers, also where these are no sums of squares.
func TestShiftOfAnyMoments(t *testing.T) {
	random := rand.New(rand.NewPCG(13, 12))
	for range 500 {
		width := random.IntN(6)
		m := api.Moments{N: 1 + random.IntN(9), XX: drawnRows(random, width, width), XY: drawnList(random, width), YY: drawnNumber(random)}
		row, y := drawnList(random, width), drawnNumber(random)
		for _, add := range []bool{true, false} {
			want := api.Moments{N: m.N - 1}
			shift := (*big.Rat).Sub
			if add {
				want.N, shift = m.N+1, (*big.Rat).Add
			}
			changed := func(sum, a, b api.Rat) api.Rat { return fromBig(shift(new(big.Rat), toBig(sum), product(a, b))) }
			for j := range row {
				want.XX = append(want.XX, nil)
				for k := range row {
					want.XX[j] = append(want.XX[j], changed(m.XX[j][k], row[j], row[k]))
				}
				want.XY = append(want.XY, changed(m.XY[j], row[j], y))
			}
			want.YY = changed(m.YY, y, y)
			shifts(t, m, row, y, add, showMoments(want), api.OK)
		}
	}
}

// The chapter's consequence, and P6: whatever rows come and go, the moments are those of the rows that are there.
func TestMomentsOfChangingRows(t *testing.T) {
	random := rand.New(rand.NewPCG(13, 13))
	for range 60 {
		width := 1 + random.IntN(4)
		var x [][]api.Rat
		var y []api.Rat
		m := formed(0, width)
		for range 40 {
			if add := len(x) == 0 || random.IntN(5) > 1; add {
				x, y = append(x, drawnList(random, width)), append(y, drawnNumber(random))
				m, _ = leastsq.Shift(m, x[len(x)-1], y[len(y)-1], true)
			} else {
				i := random.IntN(len(x))
				m, _ = leastsq.Shift(m, x[i], y[i], false)
				x, y = slices.Delete(x, i, i+1), slices.Delete(y, i, i+1)
			}
			want := showMoments(formed(0, width))
			if len(x) > 0 {
				want = expectedMoments(x, y)
			}
			if got := showMoments(m); got != want {
				t.Fatalf("%s, y %s: %s, not %s", showRows(x), show(y), got, want)
			}
		}
	}
}

// The chapter's consequence: a row more and then less leaves the moments as they are, and so does a row less and then more.
func TestShiftThereAndBack(t *testing.T) {
	random := rand.New(rand.NewPCG(13, 14))
	for range 300 {
		width := random.IntN(6)
		m := api.Moments{N: 1 + random.IntN(9), XX: drawnRows(random, width, width), XY: drawnList(random, width), YY: drawnNumber(random)}
		row, y := drawnList(random, width), drawnNumber(random)
		for _, first := range []bool{true, false} {
			other, e := leastsq.Shift(m, row, y, first)
			shifts(t, other, row, y, !first, showMoments(m), api.OK)
			if e != api.OK {
				t.Errorf("%s: error %d", showMoments(m), e)
			}
		}
	}
}

// P13.3: solutions that are known, where the matrix has an inverse and where it has none.
func TestFromMoments(t *testing.T) {
	for _, v := range []struct{ xx, xy, yy, want string }{
		{"3 3; 3 5", "2 3", "2", "coef 1/6 1/2, rss 1/6, rank 2"}, {"", "-", "9", "coef -, rss 9, rank 0"}, {"", "-", "-1/2", "coef -, rss -1/2, rank 0"}, {"2", "3", "5", "coef 3/2, rss 1/2, rank 1"}, {"0", "0", "4", "coef 0, rss 4, rank 0"}, {"0 0; 0 0", "0 0", "0", "coef 0 0, rss 0, rank 0"},
		{"1 1; 1 1", "2 2", "10", "coef 2 0, rss 6, rank 1"}, {"0 0; 0 2", "0 3", "7", "coef 0 3/2, rss 5/2, rank 1"}, {"1 0 1; 0 1 1; 1 1 2", "1 2 3", "6", "coef 1 2 0, rss 1, rank 2"},
		{"0 1; 1 0", "2 3", "0", "coef 3 2, rss -12, rank 2"}, {"1 2; 0 1", "5 2", "0", "coef 1 2, rss -9, rank 2"}, {"0 1; 0 2", "1 2", "9", "coef 0 1, rss 7, rank 1"}, {"-1", "1", "0", "coef -1, rss 1, rank 1"}, {"1/2 1/3; 1/3 1/4", "1 1", "1", "coef -6 12, rss -5, rank 2"},
	} {
		solves(t, api.Moments{XX: rows(t, v.xx), XY: list(t, v.xy), YY: number(t, v.yy)}, v.want, api.OK)
	}
	wide := formed(5, 12)
	for j := range wide.XY {
		wide.XX[j][11-j], wide.XY[j] = rational.FromInt(2), rational.FromInt(j)
	}
	wide.YY = rational.FromInt(1000)
	solves(t, wide, "coef 11/2 5 9/2 4 7/2 3 5/2 2 3/2 1 1/2 0, rss 890, rank 12", api.OK)
}

// P13.3: drawn moments, compared with matrix.Solve and matrix.Rank; N does not count.
func TestDrawnMoments(t *testing.T) {
	random := rand.New(rand.NewPCG(13, 15))
	seen := map[api.Errno]int{}
	for range 2000 {
		width := 1 + random.IntN(5)
		m := api.Moments{N: random.IntN(3), XX: drawnRows(random, width, width), XY: drawnList(random, width), YY: drawnNumber(random)}
		if random.IntN(2) == 0 {
			m.XY, _ = matrix.Apply(m.XX, m.XY)
		}
		want := noSolution
		b, e := matrix.Solve(m.XX, m.XY)
		if e == api.OK {
			rank, _ := matrix.Rank(m.XX)
			rss := new(big.Rat).Sub(toBig(m.YY), dot(meaning(b), meaning(m.XY)))
			want = solution{b, fromBig(rss), rank}.String()
			if rank < width {
				seen[api.ErrSingular]++
			}
		}
		seen[e]++
		solves(t, m, want, e)
	}
	if seen[api.OK] < 500 || seen[api.ErrInfeasible] < 100 || seen[api.ErrSingular] < 100 {
		t.Errorf("outcomes %v", seen)
	}
}

// R7: numbers that are not valid count as 0.
func TestInvalidMoments(t *testing.T) {
	for _, bad := range invalid() {
		m := api.Moments{N: 3, XX: [][]api.Rat{{rational.FromInt(2), bad}, {bad, bad}}, XY: []api.Rat{rational.FromInt(3), bad}, YY: bad}
		shifts(t, m, list(t, "1 2"), rational.FromInt(5), true, "n 4, xx 3 2; 2 4, xy 8 10, yy 25", api.OK)
		shifts(t, m, []api.Rat{bad, rational.FromInt(1)}, bad, false, "n 2, xx 2 0; 0 -1, xy 3 0, yy 0", api.OK)
		shifts(t, m, []api.Rat{bad, bad}, bad, true, "n 4, xx 2 0; 0 0, xy 3 0, yy 0", api.OK)
		solves(t, m, "coef 3/2 0, rss -9/2, rank 1", api.OK)
		solves(t, api.Moments{YY: bad}, "coef -, rss 0, rank 0", api.OK)
		shifts(t, api.Moments{YY: bad}, nil, bad, true, "n 1, xx , xy -, yy 0", api.OK)
		solves(t, api.Moments{XX: [][]api.Rat{{bad}}, XY: []api.Rat{rational.FromInt(1)}}, noSolution, api.ErrInfeasible)
		gathers(t, [][]api.Rat{{bad, rational.FromInt(2)}, {rational.FromInt(1), bad}}, []api.Rat{bad, rational.FromInt(3)}, "n 2, xx 1 0; 0 4, xy 3 0, yy 9")
		fits(t, [][]api.Rat{{bad, rational.FromInt(2)}, {rational.FromInt(1), bad}}, []api.Rat{bad, rational.FromInt(3)}, "rank 2, used [true true], coef 3 0, residuals 0 0, rss 0, leverage 1 1")
		fits(t, [][]api.Rat{{bad}, {bad}}, []api.Rat{rational.FromInt(3), bad}, "rank 0, used [false], coef 0, residuals 3 0, rss 9, leverage 0 0")
		residualsAre(t, [][]api.Rat{{bad, rational.FromInt(2)}, {rational.FromInt(1), bad}}, []api.Rat{bad, rational.FromInt(3)}, []api.Rat{bad, rational.FromInt(7)}, "-14 3")
		residualsAre(t, [][]api.Rat{{bad}}, []api.Rat{bad}, []api.Rat{bad}, "0")
	}
}

// P13.3: long numbers.
func TestLongMoments(t *testing.T) {
	long := strings.Repeat("7", 200)
	m := api.Moments{XX: rows(t, long+" 0; 0 1/"+long), XY: list(t, "1 1"), YY: number(t, long)}
	solves(t, m, "coef 1/"+long+" "+long+", rss -1/"+long+", rank 2", api.OK)
}
