package leastsq_test

import (
	"math/big"
	"math/rand/v2"
	"slices"
	"testing"

	"robuststats/api"
	"robuststats/design"
	"robuststats/formula"
	"robuststats/leastsq"
	"robuststats/matrix"
	"robuststats/rational"
	"robuststats/table"
	"robuststats/terms"
)

// A sample is a proper matrix with its responses.
type sample struct {
	x [][]api.Rat
	y []api.Rat
}

// samples are drawn ones of all shapes, with their fits.
func samples(t *testing.T, seed uint64, n int, check func(sample, api.LSFit)) {
	t.Helper()
	random := rand.New(rand.NewPCG(13, seed))
	for range n {
		rows := 1 + random.IntN(8)
		s := sample{drawnRows(random, rows, 1+random.IntN(5)), drawnList(random, rows)}
		f, e := leastsq.Fit(s.x, s.y)
		if e != api.OK {
			t.Errorf("%s: error %d", showRows(s.x), e)
			continue
		}
		check(s, f)
	}
}

// P13.1 and the chapter's consequence: the residuals are orthogonal to all columns, also to those that are not used.
func TestResidualsAreOrthogonal(t *testing.T) {
	samples(t, 21, 500, func(s sample, f api.LSFit) {
		for j := range s.x[0] {
			if v := dot(column(s.x, j), meaning(f.Residuals)); v.Sign() != 0 {
				t.Errorf("%s, y %s: column %d, %s", showRows(s.x), show(s.y), j, v)
			}
		}
	})
}

// The chapter's consequence: no other coefficients have a smaller sum of squares.
func TestOtherCoefficients(t *testing.T) {
	random := rand.New(rand.NewPCG(13, 22))
	equal := 0
	samples(t, 23, 300, func(s sample, f api.LSFit) {
		for range 20 {
			b := slices.Clone(f.Coef)
			if j := random.IntN(len(b)); random.IntN(2) == 0 {
				b[j] = rational.Add(b[j], fromBig(big.NewRat(random.Int64N(3)-1, 1000)))
			} else {
				b = drawnList(random, len(b))
			}
			r, e := leastsq.Residuals(s.x, s.y, b)
			order := dot(meaning(r), meaning(r)).Cmp(toBig(f.RSS))
			if order < 0 || e != api.OK {
				t.Errorf("%s, y %s: %s has a smaller sum than %s, error %d", showRows(s.x), show(s.y), show(b), show(f.Coef), e)
			}
			if order == 0 {
				equal++
			}
		}
	})
	if equal < 100 {
		t.Errorf("only %d are as small", equal)
	}
}

// The chapter's consequence: the leverages are from 0 to 1 and have the sum Rank.
func TestSumOfLeverages(t *testing.T) {
	samples(t, 24, 500, func(s sample, f api.LSFit) {
		sum, one := new(big.Rat), big.NewRat(1, 1)
		for _, h := range meaning(f.Leverage) {
			sum.Add(sum, h)
			if h.Sign() < 0 || h.Cmp(one) > 0 {
				t.Errorf("%s: leverage %s", showRows(s.x), h)
			}
		}
		if sum.Cmp(big.NewRat(int64(f.Rank), 1)) != 0 {
			t.Errorf("%s: the sum of the leverages is %s, the rank %d", showRows(s.x), sum, f.Rank)
		}
	})
}

// The chapter's consequence, P13.2 and P13.3: the fit of the moments is that of the rows.
func TestFitOfMoments(t *testing.T) {
	samples(t, 25, 700, func(s sample, f api.LSFit) {
		m, e := leastsq.Gather(s.x, s.y)
		if e != api.OK {
			t.Errorf("%s: error %d", showRows(s.x), e)
		}
		solves(t, m, solution{f.Coef, f.RSS, f.Rank}.String(), api.OK)
	})
}

// P13.1: Residuals with Coef are those of the fit.
func TestResidualsOfFits(t *testing.T) {
	samples(t, 26, 300, func(s sample, f api.LSFit) {
		residualsAre(t, s.x, s.y, f.Coef, show(f.Residuals))
	})
}

// P7: the order of the rows changes that of the residuals and of the leverages alone.
func TestOrderOfRows(t *testing.T) {
	random := rand.New(rand.NewPCG(13, 27))
	samples(t, 28, 200, func(s sample, f api.LSFit) {
		order := random.Perm(len(s.x))
		other, want := sample{}, f
		want.Residuals, want.Leverage = nil, nil
		for _, i := range order {
			other.x, other.y = append(other.x, s.x[i]), append(other.y, s.y[i])
			want.Residuals, want.Leverage = append(want.Residuals, f.Residuals[i]), append(want.Leverage, f.Leverage[i])
		}
		fits(t, other.x, other.y, showFit(want))
	})
}

// P7: with another unit of a column its coefficient has another one, and with another unit of the responses the coefficients and the residuals have.
func TestUnits(t *testing.T) {
	random := rand.New(rand.NewPCG(13, 29))
	samples(t, 30, 200, func(s sample, f api.LSFit) {
		at, unit, scale := random.IntN(len(f.Coef)), number(t, "-7/3"), number(t, "5/2")
		other, want := sample{y: s.y}, f
		for _, row := range s.x {
			row = slices.Clone(row)
			row[at] = rational.Mul(row[at], unit)
			other.x = append(other.x, row)
		}
		want.Coef = slices.Clone(f.Coef)
		want.Coef[at], _ = rational.Div(f.Coef[at], unit)
		fits(t, other.x, other.y, showFit(want))
		times := func(numbers []api.Rat) []api.Rat {
			list := slices.Clone(numbers)
			for i, x := range list {
				list[i] = rational.Mul(x, scale)
			}
			return list
		}
		want.Coef, want.Residuals, want.RSS = times(want.Coef), times(f.Residuals), rational.Mul(f.RSS, rational.Mul(scale, scale))
		fits(t, other.x, times(s.y), showFit(want))
	})
}

// P7: independent mixtures of the columns have the same residuals and leverages.
func TestMixtures(t *testing.T) {
	random := rand.New(rand.NewPCG(13, 31))
	mixed := 0
	samples(t, 32, 400, func(s sample, f api.LSFit) {
		width := len(f.Coef)
		mixture := drawnRows(random, width, width)
		if rank, _ := matrix.Rank(mixture); rank < width {
			return
		}
		mixed++
		x, _ := matrix.Mul(s.x, mixture)
		g, e := leastsq.Fit(x, s.y)
		if g.Rank != f.Rank || show(g.Residuals) != show(f.Residuals) || show(g.Leverage) != show(f.Leverage) || rational.Compare(g.RSS, f.RSS) != 0 || e != api.OK {
			t.Errorf("%s, mixed by %s: %s, error %d, not %s", showRows(s.x), showRows(mixture), showFit(g), e, showFit(f))
		}
	})
	if mixed < 100 {
		t.Errorf("only %d mixtures", mixed)
	}
}

// P7: all codings of categories, and formulas with the same set of terms, have the same residuals and leverages.
func TestCodings(t *testing.T) {
	one := rational.FromInt(1)
	fields := []api.Field{{Name: "y", Kind: api.Number, Unit: one}, {Name: "x", Kind: api.Number, Unit: one}, {Name: "g", Kind: api.Category, Unit: one}, {Name: "h", Kind: api.Category, Unit: one}}
	data, _, e := table.Build(fields, [][]string{{"1", "2", "a", "u"}, {"2", "-1/2", "b", "u"}, {"5", "3", "c", "v"}, {"3", "7", "a", "v"}, {"8", "1", "b", "v"}, {"0", "0", "c", "u"}, {"4", "5", "a", "u"}, {"6", "-2", "b", "u"}})
	if e != api.OK {
		t.Fatalf("error %d", e)
	}
	for _, texts := range [][]string{{"y ~ g", "y ~ g - 1"}, {"y ~ x + g", "y ~ g + x", "y ~ 0 + g + x"}, {"y ~ g * h", "y ~ h + g + g:h", "y ~ g:h - 1"}, {"y ~ x * g", "y ~ g + x:g - 1"}} {
		want := ""
		for _, text := range texts {
			f, _, _ := formula.Parse(text)
			m, _ := terms.Expand(f)
			for _, coding := range []int{api.Treatment, api.SumToZero, api.Helmert, api.Indicator} {
				d, e := design.Build(data, m, coding)
				fit, g := leastsq.Fit(d.X, d.Y)
				fit.Coef, fit.Used = nil, nil
				if want == "" {
					want = showFit(fit)
				}
				if got := showFit(fit); got != want || e+g != api.OK {
					t.Errorf("%s, coding %d: %s, errors %d and %d, not %s", text, coding, got, e, g, want)
				}
			}
		}
	}
}
