package leastsq_test

import (
	"fmt"
	"math/big"
	"math/rand/v2"
	"slices"
	"strings"
	"testing"

	"robuststats/api"
	"robuststats/leastsq"
	"robuststats/rational"
)

func number(t *testing.T, text string) api.Rat {
	t.Helper()
	x, ok := rational.Parse(text)
	if !ok {
		t.Fatalf("%.40s is no number", text)
	}
	return x
}

// list reads numbers with spaces between them; "-" is none.
func list(t *testing.T, text string) []api.Rat {
	t.Helper()
	var row []api.Rat
	for _, s := range strings.Fields(text) {
		if s != "-" {
			row = append(row, number(t, s))
		}
	}
	return row
}

// rows reads lists with semicolons between them.
func rows(t *testing.T, text string) [][]api.Rat {
	t.Helper()
	var m [][]api.Rat
	for line := range strings.SplitSeq(text, ";") {
		if strings.TrimSpace(line) != "" {
			m = append(m, list(t, line))
		}
	}
	return m
}

func show(numbers []api.Rat) string {
	var text []string
	for _, x := range numbers {
		text = append(text, rational.Format(x))
	}
	if text == nil {
		return "-"
	}
	return strings.Join(text, " ")
}

func showRows(m [][]api.Rat) string {
	var lines []string
	for _, row := range m {
		lines = append(lines, show(row))
	}
	return strings.Join(lines, "; ")
}

func showFit(f api.LSFit) string {
	return fmt.Sprintf("rank %d, used %v, coef %s, residuals %s, rss %s, leverage %s", f.Rank, f.Used, show(f.Coef), show(f.Residuals), rational.Format(f.RSS), show(f.Leverage))
}

func showMoments(m api.Moments) string {
	return fmt.Sprintf("n %d, xx %s, xy %s, yy %s", m.N, showRows(m.XX), show(m.XY), rational.Format(m.YY))
}

// The texts of what comes with an error.
var (
	noFit     = showFit(api.LSFit{})
	noMoments = showMoments(api.Moments{})
)

// zeros are n lists of zeros.
func zeros(n, width int) [][]api.Rat {
	m := make([][]api.Rat, n)
	for i := range m {
		m[i] = make([]api.Rat, width)
	}
	return m
}

// invalid are values that are no numbers.
func invalid() []api.Rat {
	return []api.Rat{
		{Num: api.Int{Neg: true}}, {Den: []uint32{2}}, {Num: api.Int{Mag: []uint32{2}}, Den: []uint32{1}}, {Num: api.Int{Mag: []uint32{2}}, Den: []uint32{4}}, {Num: api.Int{Mag: []uint32{3}}, Den: []uint32{0}}, {Num: api.Int{Mag: []uint32{3, 0}}}, {Num: api.Int{Mag: []uint32{1}}, Den: []uint32{5, 0}},
	}
}

// toBig returns what x stands for.
func toBig(x api.Rat) *big.Rat {
	if !rational.Valid(x) {
		return new(big.Rat)
	}
	v := new(big.Rat).SetInt(valueOf(x.Num.Mag))
	if len(x.Den) > 0 {
		v.SetFrac(valueOf(x.Num.Mag), valueOf(x.Den))
	}
	if x.Num.Neg {
		v.Neg(v)
	}
	return v
}

func valueOf(limbs []uint32) *big.Int {
	v := new(big.Int)
	for _, limb := range slices.Backward(limbs) {
		v.Lsh(v, 32).Or(v, big.NewInt(int64(limb)))
	}
	return v
}

// fromBig returns the one valid representation of a value.
func fromBig(v *big.Rat) api.Rat {
	x := api.Rat{Num: api.Int{Neg: v.Sign() < 0, Mag: limbsOf(v.Num())}}
	if !v.IsInt() {
		x.Den = limbsOf(v.Denom())
	}
	return x
}

func limbsOf(v *big.Int) []uint32 {
	var limbs []uint32
	for rest := new(big.Int).Abs(v); rest.Sign() > 0; rest.Rsh(rest, 32) {
		limbs = append(limbs, uint32(rest.Uint64()))
	}
	return limbs
}

// meaning returns the values of some numbers.
func meaning(numbers []api.Rat) []*big.Rat {
	values := make([]*big.Rat, len(numbers))
	for i, x := range numbers {
		values[i] = toBig(x)
	}
	return values
}

func represent(values []*big.Rat) []api.Rat {
	numbers := make([]api.Rat, len(values))
	for i, v := range values {
		numbers[i] = fromBig(v)
	}
	return numbers
}

// dot is the sum of the products.
func dot(v, w []*big.Rat) *big.Rat {
	sum := new(big.Rat)
	for i := range v {
		sum.Add(sum, new(big.Rat).Mul(v[i], w[i]))
	}
	return sum
}

// column returns the values of a column.
func column(m [][]api.Rat, j int) []*big.Rat {
	values := make([]*big.Rat, len(m))
	for i, row := range m {
		values[i] = toBig(row[j])
	}
	return values
}

func product(x, y api.Rat) *big.Rat { return new(big.Rat).Mul(toBig(x), toBig(y)) }

func areValid(lists ...[]api.Rat) bool {
	return !slices.ContainsFunc(slices.Concat(lists...), func(x api.Rat) bool { return !rational.Valid(x) })
}

// fits expects a fit, in valid numbers.
func fits(t *testing.T, x [][]api.Rat, y []api.Rat, want string) api.LSFit {
	t.Helper()
	f, e := leastsq.Fit(x, y)
	if got := showFit(f); got != want || e != api.OK {
		t.Errorf("%.400s, y %.200s: %.600s, error %d, not %.600s", showRows(x), show(y), got, e, want)
	}
	if !areValid(f.Coef, f.Residuals, f.Leverage, []api.Rat{f.RSS}) {
		t.Errorf("%.400s, y %.200s: a number is not valid", showRows(x), show(y))
	}
	return f
}

// gathers expects moments, in valid numbers.
func gathers(t *testing.T, x [][]api.Rat, y []api.Rat, want string) api.Moments {
	t.Helper()
	m, e := leastsq.Gather(x, y)
	if got := showMoments(m); got != want || e != api.OK {
		t.Errorf("%.400s, y %.200s: %.600s, error %d, not %.600s", showRows(x), show(y), got, e, want)
	}
	if !areValid(append(m.XX, m.XY, []api.Rat{m.YY})...) {
		t.Errorf("%.400s, y %.200s: a number is not valid", showRows(x), show(y))
	}
	return m
}

// shifts expects moments, in valid numbers, or an error.
func shifts(t *testing.T, m api.Moments, row []api.Rat, y api.Rat, add bool, want string, wanted api.Errno) api.Moments {
	t.Helper()
	s, e := leastsq.Shift(m, row, y, add)
	if got := showMoments(s); got != want || e != wanted {
		t.Errorf("%.400s, row %.200s, y %s, %v: %.600s, error %d, not %.600s, error %d", showMoments(m), show(row), rational.Format(y), add, got, e, want, wanted)
	}
	if !areValid(append(s.XX, s.XY, []api.Rat{s.YY})...) {
		t.Errorf("%.400s, row %.200s: a number is not valid", showMoments(m), show(row))
	}
	return s
}

// A solution is what FromMoments returns.
type solution struct {
	coef []api.Rat
	rss  api.Rat
	rank int
}

func (s solution) String() string {
	return fmt.Sprintf("coef %s, rss %s, rank %d", show(s.coef), rational.Format(s.rss), s.rank)
}

var noSolution = solution{}.String()

// solves expects a solution, in valid numbers, or an error.
func solves(t *testing.T, m api.Moments, want string, wanted api.Errno) {
	t.Helper()
	coef, rss, rank, e := leastsq.FromMoments(m)
	if got := (solution{coef, rss, rank}).String(); got != want || e != wanted {
		t.Errorf("%.600s: %.600s, error %d, not %.600s, error %d", showMoments(m), got, e, want, wanted)
	}
	if !areValid(coef, []api.Rat{rss}) {
		t.Errorf("%.600s: a number is not valid", showMoments(m))
	}
}

// A direction is a sum of multiples of columns that is orthogonal to the directions before it.
type direction struct {
	sum, multiples []*big.Rat
}

// without subtracts the multiple of d from the numbers of v that stand for sums, and the same one from the multiples w.
func (d direction) without(v, w []*big.Rat) {
	f := new(big.Rat).Quo(dot(v, d.sum), dot(d.sum, d.sum))
	for i := range v {
		v[i] = new(big.Rat).Sub(v[i], new(big.Rat).Mul(f, d.sum[i]))
	}
	for j := range w {
		w[j] = new(big.Rat).Sub(w[j], new(big.Rat).Mul(f, d.multiples[j]))
	}
}

// directions are those of the columns that do not depend on earlier ones, and which columns these are.
func directions(x [][]api.Rat) (list []direction, used []bool) {
	for j := range x[0] {
		d := direction{column(x, j), meaning(make([]api.Rat, len(x[0])))}
		d.multiples[j].SetInt64(1)
		for _, other := range list {
			other.without(d.sum, d.multiples)
		}
		used = append(used, dot(d.sum, d.sum).Sign() != 0)
		if used[j] {
			list = append(list, d)
		}
	}
	return list, used
}

// expectedFit is the fit by Gram's and Schmidt's method: what all directions leave of y are the residuals, and the projection is the sum of those on single directions.
func expectedFit(x [][]api.Rat, y []api.Rat) string {
	list, used := directions(x)
	residuals, coef := meaning(y), meaning(make([]api.Rat, len(x[0])))
	leverage := meaning(make([]api.Rat, len(x)))
	for _, d := range list {
		d.without(residuals, coef)
		for i, v := range d.sum {
			part := new(big.Rat).Mul(v, v)
			leverage[i].Add(leverage[i], part.Quo(part, dot(d.sum, d.sum)))
		}
	}
	for j := range coef {
		coef[j].Neg(coef[j])
	}
	return showFit(api.LSFit{Rank: len(list), Used: used, Coef: represent(coef), Residuals: represent(residuals), RSS: fromBig(dot(residuals, residuals)), Leverage: represent(leverage)})
}

// expectedMoments are the sums in the chapter's words.
func expectedMoments(x [][]api.Rat, y []api.Rat) string {
	m := api.Moments{N: len(x), YY: fromBig(dot(meaning(y), meaning(y)))}
	for j := range x[0] {
		var row []api.Rat
		for k := range x[0] {
			row = append(row, fromBig(dot(column(x, j), column(x, k))))
		}
		m.XX = append(m.XX, row)
		m.XY = append(m.XY, fromBig(dot(column(x, j), meaning(y))))
	}
	return showMoments(m)
}

// drawnNumber is often a small integer, and 0 more often than others.
func drawnNumber(random *rand.Rand) api.Rat {
	if random.IntN(5) == 0 {
		return api.Rat{}
	}
	size := []int64{2, 10, 1 << 33}[random.IntN(3)]
	den := []int64{1, 1, 10, size}[random.IntN(4)]
	return fromBig(big.NewRat(random.Int64N(2*size)-size, 1+random.Int64N(den)))
}

func drawnList(random *rand.Rand, n int) []api.Rat {
	numbers := make([]api.Rat, n)
	for i := range numbers {
		numbers[i] = drawnNumber(random)
	}
	return numbers
}

// drawnRows has columns that are often sums of multiples of earlier ones.
func drawnRows(random *rand.Rand, n, width int) [][]api.Rat {
	m := make([][]api.Rat, n)
	for j := range width {
		a, b := random.IntN(j+1), random.IntN(j+1)
		v, w := rational.FromInt(random.IntN(5)-2), rational.FromInt(random.IntN(5)-2)
		depends := j > 0 && random.IntN(3) == 0
		for i := range m {
			x := drawnNumber(random)
			if depends {
				x = rational.Add(rational.Mul(v, m[i][a%j]), rational.Mul(w, m[i][b%j]))
			}
			m[i] = append(m[i], x)
		}
	}
	return m
}
