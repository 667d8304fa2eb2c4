package interval_test

import (
	"math/big"
	"slices"
	"strconv"
	"testing"

	"robuststats/api"
	"robuststats/interval"
	"robuststats/rational"
)

// span is what an interval stands for.
type span struct {
	lo, hi *big.Rat
}

// invalid are values that stand for no number and count as 0.
func invalid() []api.Rat {
	limbs := func(list ...uint32) []uint32 { return list }
	return []api.Rat{
		{Num: api.Int{Mag: limbs(3)}, Den: limbs(1)}, {Num: api.Int{Neg: true, Mag: limbs(3)}, Den: limbs(1)}, {Num: api.Int{Neg: true, Mag: limbs(6)}, Den: limbs(4)}, {Num: api.Int{Mag: limbs(7)}, Den: limbs(2, 0)},
		{Den: limbs(2)}, {Num: api.Int{Neg: true}}, {Num: api.Int{Mag: limbs(5, 0)}}, {Num: api.Int{Neg: true, Mag: limbs(0, 0, 0)}, Den: limbs(0)},
	}
}

// ends are valid numbers in ascending order: short ones, long ones, and 0 between close neighbours.
func ends(t *testing.T) []api.Rat {
	t.Helper()
	var list []api.Rat
	for _, s := range []string{"-340282366920938463463374607431768211457/3", "-7/2", "-2", "-1", "-1/18446744073709551617", "0", "1/4294967296", "2/3", "1", "2", "18446744073709551616/7"} {
		list = append(list, number(t, s))
	}
	return list
}

// all are all intervals of the ends, those whose Lo is greater than Hi, and ones with ends that are not valid.
func all(t *testing.T) []api.Interval {
	t.Helper()
	var list []api.Interval
	for _, lo := range ends(t) {
		for _, hi := range ends(t) {
			list = append(list, api.Interval{Lo: lo, Hi: hi})
		}
	}
	return append(list, broken(t)...)
}

// broken are values with an end that is not valid. Some of them stand for other intervals than [0, 0].
func broken(t *testing.T) []api.Interval {
	t.Helper()
	var list []api.Interval
	for _, bad := range invalid() {
		for _, s := range []string{"-1/3", "0", "5/2"} {
			good := number(t, s)
			list = append(list, api.Interval{Lo: bad, Hi: good}, api.Interval{Lo: good, Hi: bad})
		}
		list = append(list, api.Interval{Lo: bad, Hi: bad})
	}
	return list
}

func number(t *testing.T, s string) api.Rat {
	t.Helper()
	x, ok := rational.Parse(s)
	if !ok {
		t.Fatalf("%.40s is no number", s)
	}
	return x
}

// pair is the value with these ends, an interval or not.
func pair(t *testing.T, lo, hi string) api.Interval {
	t.Helper()
	return api.Interval{Lo: number(t, lo), Hi: number(t, hi)}
}

func show(a api.Interval) string {
	return "[" + rational.Format(a.Lo) + ", " + rational.Format(a.Hi) + "]"
}

// toBig returns what x stands for.
func toBig(x api.Rat) *big.Rat {
	v, _ := new(big.Rat).SetString(rational.Format(x))
	return v
}

// fromBig returns the one valid representation of a value.
func fromBig(v *big.Rat) api.Rat {
	x := api.Rat{Num: api.Int{Neg: v.Sign() < 0, Mag: limbsOf(v.Num())}}
	if !v.IsInt() {
		x.Den = limbsOf(v.Denom())
	}
	return x
}

func limbsOf(v *big.Int) []uint32 {
	var limbs []uint32
	for rest := new(big.Int).Abs(v); rest.Sign() > 0; rest.Rsh(rest, 32) {
		limbs = append(limbs, uint32(rest.Uint64()))
	}
	return limbs
}

// meaning returns what a stands for, by the first paragraph of the chapter.
func meaning(a api.Interval) span {
	s := span{toBig(a.Lo), toBig(a.Hi)}
	if s.lo.Cmp(s.hi) > 0 {
		return span{new(big.Rat), new(big.Rat)}
	}
	return s
}

func (s span) contains(v *big.Rat) bool {
	return s.lo.Cmp(v) <= 0 && v.Cmp(s.hi) <= 0
}

// points are numbers of s, those among them at which sums, products, quotients and squares can be least or greatest.
func (s span) points() []*big.Rat {
	list := []*big.Rat{s.lo, s.hi}
	if zero := new(big.Rat); s.contains(zero) {
		list = append(list, zero)
	}
	return list
}

// around is the least span of some values.
func around(values []*big.Rat) span {
	return span{slices.MinFunc(values, (*big.Rat).Cmp), slices.MaxFunc(values, (*big.Rat).Cmp)}
}

func equal(x, y api.Rat) bool {
	return x.Num.Neg == y.Num.Neg && slices.Equal(x.Num.Mag, y.Num.Mag) && slices.Equal(x.Den, y.Den)
}

// isZero reports whether a is the zero value.
func isZero(a api.Interval) bool {
	return equal(a.Lo, api.Rat{}) && equal(a.Hi, api.Rat{})
}

// same fails the test if a result is not the one valid representation of what is wanted.
func same(t *testing.T, what string, got api.Interval, want span) {
	t.Helper()
	if !equal(got.Lo, fromBig(want.lo)) || !equal(got.Hi, fromBig(want.hi)) {
		t.Errorf("%s: %v, not [%v, %v]", what, got, want.lo, want.hi)
	}
}

// results calls every function that returns numbers or intervals, and lists the numbers.
func results(a, b api.Interval, v api.Rat) []api.Rat {
	made, _ := interval.Make(a.Lo, a.Hi)
	crossed, _ := interval.Make(v, b.Hi)
	quotients, _ := interval.Div(a, b)
	both, _ := interval.Meet(a, b)
	root, _ := interval.Root(v, 40)
	rough, _ := interval.Root(v, 0)
	list := []api.Rat{interval.Width(a), interval.Mid(a)}
	for _, c := range []api.Interval{made, crossed, interval.Add(a, b), interval.Sub(a, b), interval.Mul(a, b), quotients, interval.Square(a), interval.Hull(a, b), both, root, rough} {
		list = append(list, c.Lo, c.Hi)
	}
	return list
}

// answers calls every function and writes the results as text.
func answers(a, b api.Interval, v api.Rat) []string {
	_, made := interval.Make(a.Lo, a.Hi)
	_, divided := interval.Div(a, b)
	_, rooted := interval.Root(v, 40)
	_, meet := interval.Meet(a, b)
	text := []string{strconv.Itoa(int(made)), strconv.Itoa(int(divided)), strconv.Itoa(int(rooted))}
	for _, is := range []bool{meet, interval.Valid(a), interval.Contains(a, v), interval.Within(a, b)} {
		text = append(text, strconv.FormatBool(is))
	}
	for _, x := range results(a, b, v) {
		text = append(text, describe(x))
	}
	return text
}

// describe writes a representation, so that different ones of one value differ.
func describe(x api.Rat) string {
	text := strconv.FormatBool(x.Num.Neg)
	for _, limb := range x.Num.Mag {
		text += " " + strconv.FormatUint(uint64(limb), 10)
	}
	text += " /"
	for _, limb := range x.Den {
		text += " " + strconv.FormatUint(uint64(limb), 10)
	}
	return text
}
