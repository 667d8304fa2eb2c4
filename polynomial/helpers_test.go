package polynomial_test

import (
	"math/big"
	"math/rand/v2"
	"slices"
	"strconv"
	"strings"
	"testing"

	"robuststats/api"
	"robuststats/interval"
	"robuststats/polynomial"
	"robuststats/rational"
)

// invalid are values that stand for no number and count as 0.
func invalid() []api.Rat {
	limbs := func(list ...uint32) []uint32 { return list }
	return []api.Rat{
		{Num: api.Int{Mag: limbs(3)}, Den: limbs(1)}, {Num: api.Int{Neg: true, Mag: limbs(6)}, Den: limbs(4)}, {Num: api.Int{Mag: limbs(7)}, Den: limbs(2, 0)},
		{Den: limbs(2)}, {Num: api.Int{Neg: true}}, {Num: api.Int{Mag: limbs(5, 0)}}, {Num: api.Int{Neg: true, Mag: limbs(0, 0, 0)}, Den: limbs(0)},
	}
}

func number(t *testing.T, s string) api.Rat {
	t.Helper()
	x, ok := rational.Parse(s)
	if !ok {
		t.Fatalf("%.40s is no number", s)
	}
	return x
}

// poly reads a list of coefficients, which spaces separate, from the constant one on.
func poly(t *testing.T, text string) []api.Rat {
	t.Helper()
	var p []api.Rat
	for _, s := range strings.Fields(text) {
		p = append(p, number(t, s))
	}
	return p
}

func pair(t *testing.T, lo, hi string) api.Interval {
	t.Helper()
	return api.Interval{Lo: number(t, lo), Hi: number(t, hi)}
}

// show writes what poly reads.
func show(p []api.Rat) string {
	var text []string
	for _, c := range p {
		text = append(text, rational.Format(c))
	}
	return strings.Join(text, " ")
}

func showInterval(a api.Interval) string {
	return "[" + rational.Format(a.Lo) + ", " + rational.Format(a.Hi) + "]"
}

// toBig returns what x stands for.
func toBig(x api.Rat) *big.Rat {
	v, _ := new(big.Rat).SetString(rational.Format(x))
	return v
}

// fromBig returns the one valid representation of a value.
func fromBig(v *big.Rat) api.Rat {
	x := api.Rat{Num: api.Int{Neg: v.Sign() < 0, Mag: limbsOf(v.Num())}}
	if !v.IsInt() {
		x.Den = limbsOf(v.Denom())
	}
	return x
}

func limbsOf(v *big.Int) []uint32 {
	var limbs []uint32
	for rest := new(big.Int).Abs(v); rest.Sign() > 0; rest.Rsh(rest, 32) {
		limbs = append(limbs, uint32(rest.Uint64()))
	}
	return limbs
}

// meaning returns the values of the coefficients, without zeros at the end.
func meaning(p []api.Rat) []*big.Rat {
	var f []*big.Rat
	for _, c := range p {
		f = append(f, toBig(c))
	}
	return cut(f)
}

// cut shortens a list by the zeros at its end.
func cut(f []*big.Rat) []*big.Rat {
	for len(f) > 0 && f[len(f)-1].Sign() == 0 {
		f = f[:len(f)-1]
	}
	return f
}

// represent returns the one valid representation of a list of coefficients.
func represent(f []*big.Rat) []api.Rat {
	var p []api.Rat
	for _, v := range cut(f) {
		p = append(p, fromBig(v))
	}
	return p
}

func equal(x, y api.Rat) bool {
	return x.Num.Neg == y.Num.Neg && slices.Equal(x.Num.Mag, y.Num.Mag) && slices.Equal(x.Den, y.Den)
}

// same fails the test if a result is not the one valid representation of what is wanted.
func same(t *testing.T, what string, got []api.Rat, want []*big.Rat) {
	t.Helper()
	if p := represent(want); !slices.EqualFunc(got, p, equal) {
		t.Errorf("%s: %v, not %v", what, got, p)
	}
}

// product multiplies with the functions of math/big.
func product(f, g []*big.Rat) []*big.Rat {
	if len(f) == 0 || len(g) == 0 {
		return nil
	}
	list := make([]*big.Rat, len(f)+len(g)-1)
	for i := range list {
		list[i] = new(big.Rat)
	}
	for i, x := range f {
		for j, y := range g {
			list[i+j].Add(list[i+j], new(big.Rat).Mul(x, y))
		}
	}
	return list
}

// sum returns f + k g.
func sum(f []*big.Rat, k int64, g []*big.Rat) []*big.Rat {
	list := make([]*big.Rat, max(len(f), len(g)))
	for i := range list {
		list[i] = new(big.Rat)
		if i < len(g) {
			list[i].Mul(big.NewRat(k, 1), g[i])
		}
		if i < len(f) {
			list[i].Add(list[i], f[i])
		}
	}
	return cut(list)
}

// rest returns the remainder of f by g, step by step with the functions of math/big.
func rest(f, g []*big.Rat) []*big.Rat {
	for len(f) >= len(g) {
		factor := make([]*big.Rat, len(f)-len(g)+1)
		for i := range factor {
			factor[i] = new(big.Rat)
		}
		factor[len(factor)-1].Quo(f[len(f)-1], g[len(g)-1])
		f = sum(f, -1, product(factor, g))
	}
	return f
}

func derivative(f []*big.Rat) []*big.Rat {
	var list []*big.Rat
	for i := 1; i < len(f); i++ {
		list = append(list, new(big.Rat).Mul(big.NewRat(int64(i), 1), f[i]))
	}
	return list
}

// samples are polynomials of small degrees, also with zeros at the end and with long numbers, and some that were drawn.
func samples(t *testing.T) [][]api.Rat {
	t.Helper()
	list := [][]api.Rat{nil, {}}
	for _, s := range []string{
		"0", "0 0 0", "5", "-2/3", "7 0", "0 1", "0 -3 0", "-1 1", "3 2", "-2 0 1", "1 0 1", "1 -2 1", "0 0 1", "0 0 0 -1/2 0 0", "0 -1 0 1", "-1 3 -3 1", "-1 0 0 0 1", "1/2 -1/3 1/5 -1/7", "-6 11 -6 1", "4 0 -4 0 1", "1 1 1 1 1 1",
		"340282366920938463463374607431768211457/3 0 -18446744073709551617 1/4294967296", "-1/18446744073709551617 18446744073709551616/7 0",
	} {
		list = append(list, poly(t, s))
	}
	random := rand.New(rand.NewPCG(5, 1))
	for degree := range 7 {
		list = append(list, drawn(random, degree))
	}
	return list
}

// drawn is a polynomial of this degree or less.
func drawn(random *rand.Rand, degree int) []api.Rat {
	var p []api.Rat
	for range degree + 1 {
		p = append(p, fromBig(big.NewRat(random.Int64N(41)-20, 1+random.Int64N(12))))
	}
	return p
}

// broken are lists of coefficients some of which are not valid, with what they stand for.
func broken(t *testing.T) (lists, meant [][]api.Rat) {
	t.Helper()
	for _, bad := range invalid() {
		one, two := number(t, "1"), number(t, "-2/5")
		lists = append(lists, []api.Rat{bad}, []api.Rat{bad, bad}, []api.Rat{two, one, bad}, []api.Rat{two, one, bad, {}, bad}, []api.Rat{bad, one}, []api.Rat{two, bad, one, bad}, []api.Rat{one, bad, bad, two})
		meant = append(meant, nil, nil, []api.Rat{two, one}, []api.Rat{two, one}, []api.Rat{{}, one}, []api.Rat{two, {}, one}, []api.Rat{one, {}, {}, two})
	}
	return lists, meant
}

// lists calls every function that returns numbers. Numbers and intervals are listed as lists of numbers, each interval as one.
func lists(p, q []api.Rat, x api.Interval) [][]api.Rat {
	quotient, remainder, _ := polynomial.Div(p, q)
	list := append([][]api.Rat{
		polynomial.Trim(p), {polynomial.Eval(p, x.Hi)}, ends(polynomial.Enclose(p, x)), polynomial.Add(p, q), polynomial.Sub(p, q), polynomial.Mul(p, q), quotient, remainder, polynomial.Gcd(p, q), polynomial.Derivative(p),
	}, polynomial.Chain(p)...)
	isolated, _ := polynomial.Isolate(p, x.Lo, x.Hi)
	for _, a := range isolated {
		refined, _ := polynomial.Refine(p, a, 5)
		list = append(list, ends(a), ends(refined))
	}
	refined, _ := polynomial.Refine(p, x, 3)
	rough, _ := polynomial.Refine(p, api.Interval{Lo: x.Hi, Hi: x.Hi}, 0)
	return append(list, ends(refined), ends(rough))
}

func ends(a api.Interval) []api.Rat {
	return []api.Rat{a.Lo, a.Hi}
}

// answers calls every function and writes the results as text.
func answers(p, q []api.Rat, x api.Interval) []string {
	_, _, divided := polynomial.Div(p, q)
	_, isolated := polynomial.Isolate(p, x.Lo, x.Hi)
	_, refined := polynomial.Refine(p, x, 3)
	text := []string{strconv.Itoa(polynomial.Degree(p)), strconv.Itoa(polynomial.Count(p, x.Lo, x.Hi)), strconv.Itoa(int(divided)), strconv.Itoa(int(isolated)), strconv.Itoa(int(refined))}
	for _, list := range lists(p, q, x) {
		var line []string
		for _, c := range list {
			line = append(line, describe(c))
		}
		text = append(text, strings.Join(line, ", "))
	}
	return text
}

// describe writes a representation, so that different ones of one value differ.
func describe(x api.Rat) string {
	text := strconv.FormatBool(x.Num.Neg)
	for _, limb := range x.Num.Mag {
		text += " " + strconv.FormatUint(uint64(limb), 10)
	}
	text += " /"
	for _, limb := range x.Den {
		text += " " + strconv.FormatUint(uint64(limb), 10)
	}
	return text
}

// root is the number base + sign * the square root of under.
type root struct {
	base, under *big.Rat
	sign        int
}

// compare returns -1, 0 or 1 as r is less than, equal to or greater than v.
func (r root) compare(v *big.Rat) int {
	d := new(big.Rat).Sub(r.base, v)
	if r.under.Sign() == 0 || d.Sign() == r.sign {
		return d.Sign()
	}
	return r.sign * r.under.Cmp(d.Mul(d, d))
}

// between reports whether r is greater than Lo and at most Hi.
func (r root) between(a api.Interval) bool {
	return r.compare(toBig(a.Lo)) > 0 && r.compare(toBig(a.Hi)) <= 0
}

// curve is a polynomial with all its different real roots.
type curve struct {
	p     []api.Rat
	roots []root
}

// times returns c with one more factor to a power: x - base, or (x - base)^2 - under if under is not "0". Then under is negative, or not the square of a rational number.
func (c curve) times(t *testing.T, base, under string, power int) curve {
	t.Helper()
	b, u := toBig(number(t, base)), toBig(number(t, under))
	factor := []*big.Rat{new(big.Rat).Neg(b), big.NewRat(1, 1)}
	c.roots = slices.Clone(c.roots)
	switch u.Sign() {
	case 0:
		c.roots = append(c.roots, root{b, u, 0})
	case 1:
		c.roots = append(c.roots, root{b, u, -1}, root{b, u, 1})
	}
	if u.Sign() != 0 {
		factor = product(factor, factor)
		factor[0].Sub(factor[0], u)
	}
	f := meaning(c.p)
	for range power {
		f = product(f, factor)
	}
	c.p = represent(f)
	return c
}

// count returns how many roots are greater than Lo and at most Hi.
func (c curve) count(a api.Interval) int {
	n := 0
	for _, r := range c.roots {
		if r.between(a) {
			n++
		}
	}
	return n
}

// constant is a curve without roots.
func constant(t *testing.T, s string) curve {
	t.Helper()
	return curve{p: []api.Rat{number(t, s)}}
}

// integers is a curve with the roots 1 to n, times a constant.
func integers(t *testing.T, s string, n int) curve {
	t.Helper()
	c := constant(t, s)
	for i := range n {
		c = c.times(t, strconv.Itoa(i+1), "0", 1)
	}
	return c
}

// curves have simple and multiple roots, rational and irrational ones, close ones, and factors without roots.
func curves(t *testing.T) []curve {
	t.Helper()
	one, minus := constant(t, "1"), constant(t, "-3/7")
	near := "1." + strings.Repeat("0", 29) + "1"
	return []curve{
		one, minus, one.times(t, "0", "0", 1), minus.times(t, "0", "0", 5), one.times(t, "5/3", "0", 2), minus.times(t, "0", "2", 1), one.times(t, "0", "-2", 1), one.times(t, "1/2", "-1/9", 3), one.times(t, "0", "2", 3),
		one.times(t, "1", "0", 2).times(t, "2", "0", 3).times(t, "5", "0", 1), minus.times(t, "1", "0", 1).times(t, "-1", "0", 1).times(t, "0", "3", 2).times(t, "0", "-1", 1),
		one.times(t, "1", "2", 1).times(t, "1", "2/9", 1).times(t, "1", "0", 4), minus.times(t, "-2/3", "5", 2).times(t, "-2/3", "7", 1).times(t, "3", "-1", 2),
		one.times(t, "1", "0", 1).times(t, near, "0", 2), minus.times(t, "1", "0", 3).times(t, "0", "1."+strings.Repeat("0", 35)+"1", 1), one.times(t, "0", "1e-39", 1),
		// Roots that are close to Cauchy's bound, where the ratios of the coefficients are no integers.
		one.times(t, "3/2", "0", 1).times(t, "-3/5", "0", 1), minus.times(t, "-19/10", "0", 1).times(t, "1/4", "-13/16", 1), one.times(t, "0", "99/100", 1),
		one.times(t, "123456789012345678901234567890", "0", 1).times(t, "1/123456789012345678901234567890", "0", 1).times(t, "-7", "0", 1), integers(t, "-1/24", 12), integers(t, "1", api.MaxDegree),
		one.times(t, "2", "0", api.MaxDegree), one.times(t, "1/3", "2", api.MaxDegree/2), integers(t, "2", 8).times(t, "3/2", "-1/1000", 4).times(t, "3", "1/1000", 2).times(t, "-1/5", "0", 4),
	}
}

// spans are intervals whose ends are roots of many of the curves, and others.
func spans(t *testing.T) []api.Interval {
	t.Helper()
	var list []api.Interval
	for _, s := range [][2]string{
		{"-1e31", "1e32"}, {"-10", "30"}, {"-2", "2"}, {"0", "1"}, {"1", "2"}, {"0", "5"}, {"1", "5"}, {"-1", "0"}, {"-1", "1"}, {"1", "1"}, {"0", "0"}, {"5/3", "5/3"}, {"-3", "-2"}, {"1/3", "22/7"}, {"5/3", "3"}, {"-7", "5/3"}, {"7/5", "3/2"}, {"141421356/100000000", "3"}, {"2", "24"}, {"0.1", "23.9"}, {"100", "200"}, {"-1/3000000000000000000000000000000000007", "17/123456789123456789"},
	} {
		list = append(list, pair(t, s[0], s[1]))
	}
	return list
}

// isPoint reports whether the ends of an interval are equal.
func isPoint(a api.Interval) bool {
	return rational.Compare(a.Lo, a.Hi) == 0
}

// holds reports whether a is an interval as Isolate returns them.
func (c curve) holds(a api.Interval) bool {
	if !interval.Valid(a) {
		return false
	}
	if !isPoint(a) {
		return c.count(a) == 1
	}
	v := toBig(a.Lo)
	return slices.ContainsFunc(c.roots, func(r root) bool { return r.compare(v) == 0 })
}
