package rational_test

import (
	"math"
	"math/big"
	"math/rand/v2"
	"slices"
	"strconv"
	"testing"

	"robuststats/api"
	"robuststats/rational"
)

const (
	top  = math.MaxUint32
	half = 1 << 31
)

// minus and plus are the integers with these limbs, valid or not.
func minus(limbs ...uint32) api.Int { return api.Int{Neg: true, Mag: limbs} }
func plus(limbs ...uint32) api.Int  { return api.Int{Mag: limbs} }

// over is the value with this numerator and these limbs of a denominator, valid or not.
func over(num api.Int, den ...uint32) api.Rat { return api.Rat{Num: num, Den: den} }

// invalidInts are values that stand for no integer and count as 0.
func invalidInts() []api.Int {
	return []api.Int{
		{Neg: true}, {Neg: true, Mag: []uint32{}}, plus(0), minus(0), plus(5, 0), minus(5, 0), plus(1, 2, 0), minus(top, top, top, 0, 0),
	}
}

// invalid are values that stand for no number and count as 0: each breaks one part of P3.1.
func invalid() []api.Rat {
	list := []api.Rat{
		// A denominator that is the number 1.
		over(plus(3), 1), over(minus(3), 1), over(plus(1, 1, 1), 1), over(plus(), 1),
		// One that is not natural.Valid; with the numerator 1 it has no common divisor even if it counts as 0.
		over(plus(1), 0), over(minus(1), 0), over(plus(3), 0), over(plus(), 0), over(plus(1), 2, 0), over(minus(1), 2, 0), over(plus(3), 2, 0), over(plus(3), 1, 0), over(plus(1), 7, 0, 5, 0, 0),
		// A common divisor.
		over(plus(3), 6), over(minus(3), 6), over(plus(2), 4), over(minus(4), 2), over(plus(3), 3), over(minus(top), top), over(plus(0, 1), 2), over(minus(0, half), 0, half),
		over(plus(2), 0, 1), over(minus(6), 0, 0, 3), over(plus(0, 0, 0, 3), 6), over(plus(0, 0, 1), 0, 1), over(plus(0, 3), 0, 5), over(minus(0, 0, 7), 0, 0, 9),
		over(plus(0, 7, 7), 0, 1, 1), over(plus(10, 10), 15),
		// A denominator beside 0.
		over(plus(), 2), over(plus(), top), over(plus(), 0, 1), over(plus(), 1, 2, 3), over(api.Int{Mag: []uint32{}}, 2),
	}
	for _, num := range invalidInts() {
		list = append(list, over(num), over(num, 1), over(num, 2), over(num, 3, 5))
	}
	return list
}

// samples are valid numbers of both signs: those at which the short ones end, ones with denominators that have divisors in common, and long ones.
func samples() []api.Rat {
	list := []api.Rat{
		{}, over(plus(1)), over(plus(7)), over(plus(half - 1)), over(plus(half)), over(plus(top)), over(plus(0, 1)), over(plus(top, half-1)), over(plus(0, half)), over(plus(0, 0, 1)),
		over(plus(1), 2), over(plus(3), 2), over(plus(1), 3), over(plus(5), 6), over(plus(7), 6), over(plus(1), 6), over(plus(7), 12), over(plus(9), 20), over(plus(1), 60),
		over(plus(1), half-1), over(plus(half-2), half-1), over(plus(half-1), half-2), over(plus(half-1), half-3), over(plus(1), half), over(plus(half-1), half), over(plus(half), half-1), over(plus(top), half),
		over(plus(1), top), over(plus(top-1), top), over(plus(top), top-1), over(plus(0, 1), top), over(plus(top), 0, 1), over(plus(1), 0, half), over(plus(top, half-1), 0, half), over(plus(1), 0, 0, 1), over(plus(top, top, top), 0, 0, 1), over(plus(3, 0, 0, 1), 2),
	}
	random := rand.New(rand.NewPCG(3, 3))
	for limbs := range 5 {
		for range 4 {
			list = append(list, randomRat(random, limbs+1, 1+random.IntN(4)))
		}
	}
	for _, x := range slices.Clone(list[1:]) {
		y := clipped(x)
		y.Num.Neg = true
		list = append(list, y)
	}
	return list
}

// randomRat has at most so many limbs; small divisors are frequent in its denominator.
func randomRat(random *rand.Rand, num, den int) api.Rat {
	x := new(big.Rat).SetInt(randomNatural(random, num))
	d := randomNatural(random, den)
	d.Mul(d, big.NewInt(int64(1+random.IntN(12))))
	return fromBig(x.Quo(x, new(big.Rat).SetInt(d)))
}

// randomNatural is not 0.
func randomNatural(random *rand.Rand, limbs int) *big.Int {
	v := big.NewInt(0)
	for range limbs {
		v.Lsh(v, 32)
		v.Add(v, big.NewInt(int64(random.Uint32())))
	}
	return v.Add(v, big.NewInt(1))
}

// all are numbers and values that are none.
func all() []api.Rat {
	return append(samples(), invalid()...)
}

func limbsOf(v *big.Int) []uint32 {
	var limbs []uint32
	for rest := new(big.Int).Abs(v); rest.Sign() > 0; rest.Rsh(rest, 32) {
		limbs = append(limbs, uint32(rest.Uint64()))
	}
	return limbs
}

func valueOf(limbs []uint32) *big.Int {
	v := new(big.Int)
	for i := len(limbs) - 1; i >= 0; i-- {
		v.Lsh(v, 32)
		v.Add(v, new(big.Int).SetUint64(uint64(limbs[i])))
	}
	return v
}

func intFromBig(v *big.Int) api.Int { return api.Int{Neg: v.Sign() < 0, Mag: limbsOf(v)} }

// bigInt returns what x stands for, by its definition.
func bigInt(x api.Int) *big.Int {
	v := valueOf(x.Mag)
	if n := len(x.Mag); n > 0 && x.Mag[n-1] == 0 {
		return new(big.Int)
	}
	if x.Neg {
		v.Neg(v)
	}
	return v
}

// fromBig returns the one valid representation of a value.
func fromBig(v *big.Rat) api.Rat {
	x := api.Rat{Num: intFromBig(v.Num())}
	if !v.IsInt() {
		x.Den = limbsOf(v.Denom())
	}
	return x
}

// isInvalid is P3.1 in its own words.
func isInvalid(x api.Rat) bool {
	n, d := len(x.Num.Mag), len(x.Den)
	if n > 0 && x.Num.Mag[n-1] == 0 || n == 0 && x.Num.Neg {
		return true
	}
	if d == 0 {
		return false
	}
	den := valueOf(x.Den)
	common := new(big.Int).GCD(nil, nil, valueOf(x.Num.Mag), den)
	return x.Den[d-1] == 0 || den.Cmp(big.NewInt(1)) == 0 || common.Cmp(big.NewInt(1)) != 0 || n == 0
}

// toBig returns what x stands for.
func toBig(x api.Rat) *big.Rat {
	if isInvalid(x) {
		return new(big.Rat)
	}
	v := new(big.Rat).SetInt(bigInt(x.Num))
	if len(x.Den) > 0 {
		v.Quo(v, new(big.Rat).SetInt(valueOf(x.Den)))
	}
	return v
}

func equal(x, y api.Rat) bool {
	return x.Num.Neg == y.Num.Neg && slices.Equal(x.Num.Mag, y.Num.Mag) && slices.Equal(x.Den, y.Den)
}

// same fails the test if a result is not the one valid representation of what is wanted.
func same(t *testing.T, what string, got api.Rat, want *big.Rat) {
	t.Helper()
	if !equal(got, fromBig(want)) {
		t.Errorf("%s: %v, not %v", what, got, fromBig(want))
	}
}

func mustParse(t *testing.T, s string) api.Rat {
	t.Helper()
	x, ok := rational.Parse(s)
	if !ok {
		t.Fatalf("%.40s is not read", s)
	}
	return x
}

// results calls every function that returns numbers; an integer is listed as a number.
func results(x, y api.Rat) []api.Rat {
	quotient, _ := rational.Div(x, y)
	made, _ := rational.Make(x.Num, y.Num)
	one, _ := rational.Make(x.Num, plus(1))
	other, _ := rational.Make(plus(1), x.Num)
	read, _ := rational.Parse("-98765432109876543210/123456789")
	decimal, _ := rational.Parse("-98765432109876543210.5e-3")
	return []api.Rat{
		rational.Neg(x), rational.Neg(y), rational.Abs(x), rational.Abs(y), rational.Add(x, y), rational.Sub(x, y), rational.Mul(x, y), quotient,
		made, one, other, {Num: rational.Floor(x)}, rational.FromInt(-1 << 40), read, decimal,
	}
}

// answers calls every function of x and y but Valid, and writes the results as text. Of Make it uses only the numerators.
func answers(x, y api.Rat) []string {
	_, divided := rational.Div(x, y)
	_, made := rational.Make(x.Num, y.Num)
	text := []string{
		strconv.Itoa(int(divided)), strconv.Itoa(int(made)), strconv.Itoa(rational.Sign(x)), strconv.Itoa(rational.Compare(x, y)),
		rational.Format(x), rational.Decimal(x, 0), rational.Decimal(x, 7),
	}
	for _, z := range results(x, y) {
		text = append(text, describe(z))
	}
	return text
}

// describe writes a representation, so that different ones of one value differ.
func describe(x api.Rat) string {
	text := strconv.FormatBool(x.Num.Neg)
	for _, limb := range x.Num.Mag {
		text += " " + strconv.FormatUint(uint64(limb), 10)
	}
	text += " /"
	for _, limb := range x.Den {
		text += " " + strconv.FormatUint(uint64(limb), 10)
	}
	return text
}

// clipped is a copy of x with no memory behind the ends of its lists.
func clipped(x api.Rat) api.Rat {
	return api.Rat{Num: api.Int{Neg: x.Num.Neg, Mag: slices.Clip(slices.Clone(x.Num.Mag))}, Den: slices.Clip(slices.Clone(x.Den))}
}
