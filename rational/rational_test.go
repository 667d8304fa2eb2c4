package rational_test

import (
	"cmp"
	"math"
	"math/big"
	"math/rand/v2"
	"slices"
	"testing"

	"robuststats/api"
	"robuststats/rational"
)

// P3.1

func TestValid(t *testing.T) {
	for _, x := range append(samples(), api.Rat{Num: api.Int{Mag: []uint32{}}, Den: []uint32{}}, over(plus(5), []uint32{}...), over(plus(0, 0, 7)), over(plus(1), 0, 0, 7)) {
		if !rational.Valid(x) || isInvalid(x) {
			t.Errorf("%v is not valid", x)
		}
	}
	for _, x := range invalid() {
		if rational.Valid(x) || !isInvalid(x) {
			t.Errorf("%v is valid", x)
		}
	}
}

func TestValidSmall(t *testing.T) {
	for num := range uint32(40) {
		for den := range uint32(40) {
			for _, neg := range []bool{false, true} {
				x := api.Rat{Num: api.Int{Neg: neg, Mag: limbsOf(big.NewInt(int64(num)))}, Den: []uint32{den}}
				if rational.Valid(x) == isInvalid(x) {
					t.Errorf("%v", x)
				}
			}
		}
	}
}

// TestValidCommonDivisor multiplies both parts of valid numbers by a factor, so that long ones have a common divisor of any length.
func TestValidCommonDivisor(t *testing.T) {
	random := rand.New(rand.NewPCG(31, 1))
	for _, x := range samples() {
		den := big.NewInt(1)
		if len(x.Den) > 0 {
			den = valueOf(x.Den)
		}
		for limbs := 1; limbs < 5; limbs++ {
			factor := randomNatural(random, limbs)
			y := api.Rat{Num: intFromBig(new(big.Int).Mul(bigInt(x.Num), factor)), Den: limbsOf(new(big.Int).Mul(den, factor))}
			if rational.Valid(y) || rational.Sign(y) != 0 || rational.Format(y) != "0" {
				t.Errorf("%v is valid", y)
			}
			z, err := rational.Make(y.Num, plus(y.Den...))
			if err != api.OK || !equal(z, x) {
				t.Errorf("%v is made of %v: %v", z, y, err)
			}
		}
	}
}

func TestInvalidCountsAsZero(t *testing.T) {
	for _, x := range invalid() {
		for _, y := range all() {
			checkCountsAsZero(t, x, y)
		}
		if rational.Sign(x) != 0 || rational.Format(x) != "0" || rational.Decimal(x, 1) != "0.0" || rational.Compare(x, api.Rat{}) != 0 || len(rational.Floor(x).Mag) != 0 {
			t.Errorf("%v does not count as 0", x)
		}
		for _, zero := range []api.Rat{rational.Neg(x), rational.Abs(x), rational.Mul(x, rational.FromInt(3)), rational.Mul(rational.FromInt(3), x)} {
			if !equal(zero, api.Rat{}) {
				t.Errorf("%v does not count as 0: %v", x, zero)
			}
		}
		if got, err := rational.Div(rational.FromInt(3), x); err != api.ErrZero || !equal(got, api.Rat{}) {
			t.Errorf("3 by %v: %v %v", x, got, err)
		}
		if got, err := rational.Div(x, rational.FromInt(3)); err != api.OK || !equal(got, api.Rat{}) {
			t.Errorf("%v by 3: %v %v", x, got, err)
		}
	}
}

// checkCountsAsZero combines an x that is not valid with another value.
func checkCountsAsZero(t *testing.T, x, y api.Rat) {
	t.Helper()
	other := y
	if isInvalid(y) {
		other = api.Rat{}
	}
	zero := new(big.Rat)
	same(t, "0 + y", rational.Add(x, y), toBig(other))
	same(t, "y + 0", rational.Add(y, x), toBig(other))
	same(t, "0 - y", rational.Sub(x, y), new(big.Rat).Neg(toBig(other)))
	same(t, "y - 0", rational.Sub(y, x), toBig(other))
	same(t, "0 y", rational.Mul(x, y), zero)
	same(t, "y 0", rational.Mul(y, x), zero)
	if got, err := rational.Div(y, x); err != api.ErrZero || !equal(got, api.Rat{}) {
		t.Errorf("%v by %v: %v %v", y, x, got, err)
	}
	if rational.Compare(x, y) != -toBig(other).Sign() || rational.Compare(y, x) != toBig(other).Sign() {
		t.Errorf("%v, %v: not compared as 0", x, y)
	}
}

func TestResultsAreValid(t *testing.T) {
	for _, x := range all() {
		for _, y := range all() {
			for i, z := range results(x, y) {
				if isInvalid(z) || !rational.Valid(z) {
					t.Errorf("%v, %v: result %d is %v", x, y, i, z)
				}
			}
		}
	}
}

// P3.2

func TestMake(t *testing.T) {
	ints := invalidInts()
	for _, x := range samples() {
		ints = append(ints, x.Num, plus(x.Den...), minus(x.Den...))
	}
	for v := range 25 {
		ints = append(ints, intFromBig(big.NewInt(int64(v-12))))
	}
	for _, num := range ints {
		for _, den := range ints {
			checkMake(t, num, den)
		}
	}
}

func checkMake(t *testing.T, num, den api.Int) {
	t.Helper()
	got, err := rational.Make(num, den)
	n, d := bigInt(num), bigInt(den)
	if d.Sign() == 0 {
		if err != api.ErrZero || !equal(got, api.Rat{}) {
			t.Errorf("%v by %v: %v %v", num, den, got, err)
		}
		return
	}
	if err != api.OK {
		t.Errorf("%v by %v: %v", num, den, err)
	}
	same(t, "made", got, new(big.Rat).SetFrac(n, d))
}

func TestMakeExamples(t *testing.T) {
	for _, x := range []struct {
		num, den api.Int
		want     api.Rat
	}{
		{plus(6), minus(4), over(minus(3), 2)}, {minus(6), plus(4), over(minus(3), 2)}, {minus(6), minus(4), over(plus(3), 2)}, {plus(6), plus(4), over(plus(3), 2)},
		{minus(6), minus(3), over(plus(2))}, {plus(6), minus(3), over(minus(2))}, {plus(5), plus(1), over(plus(5))}, {plus(5), minus(1), over(minus(5))}, {plus(), minus(9), api.Rat{}}, {plus(), plus(9), api.Rat{}},
		{minus(0, half), minus(1), over(plus(0, half))}, {plus(0, 0, 1), plus(0, 0, 2), over(plus(1), 2)}, {minus(1), plus(0, 0, 1), over(minus(1), 0, 0, 1)},
		{plus(5, 0), plus(7), api.Rat{}}, {minus(), minus(7), api.Rat{}}, {minus(0, 0), plus(1), api.Rat{}},
	} {
		if got, err := rational.Make(x.num, x.den); err != api.OK || !equal(got, x.want) {
			t.Errorf("%v by %v: %v %v", x.num, x.den, got, err)
		}
	}
	for _, den := range append(invalidInts(), plus()) {
		for _, num := range []api.Int{plus(), plus(1), minus(4), plus(0, 0, 1), plus(5, 0)} {
			if got, err := rational.Make(num, den); err != api.ErrZero || !equal(got, api.Rat{}) {
				t.Errorf("%v by %v: %v %v", num, den, got, err)
			}
		}
	}
}

func TestFromInt(t *testing.T) {
	for _, v := range []int{0, 1, -1, 5, -5, half - 1, -half + 1, half, -half, top, -top, 1 << 32, -1 << 32, math.MaxInt, math.MinInt, math.MinInt + 1} {
		same(t, "int", rational.FromInt(v), new(big.Rat).SetInt64(int64(v)))
	}
}

func TestSignNegAbs(t *testing.T) {
	for _, x := range all() {
		v := toBig(x)
		if got := rational.Sign(x); got != v.Sign() {
			t.Errorf("sign of %v: %d", x, got)
		}
		same(t, "opposite", rational.Neg(x), new(big.Rat).Neg(v))
		same(t, "opposite of the opposite", rational.Neg(rational.Neg(x)), v)
		same(t, "absolute value", rational.Abs(x), new(big.Rat).Abs(v))
	}
}

func TestCompare(t *testing.T) {
	for _, x := range all() {
		for _, y := range all() {
			if got, want := rational.Compare(x, y), toBig(x).Cmp(toBig(y)); got != want {
				t.Errorf("%v, %v: %d", x, y, got)
			}
		}
	}
	ascending := []string{"-10000000000000000000000000", "-3", "-5/2", "-9999999999/10000000000", "-1/2", "-1/3", "-1/1000", "-1/10000000000000000000000000", "0", "1/4294967296", "1/4294967295", "1/3", "1/2", "2/3", "1", "4294967297/4294967296", "4294967296/4294967295", "7/2", "2147483647", "2147483648"}
	for i, x := range ascending {
		for j, y := range ascending {
			if got := rational.Compare(mustParse(t, x), mustParse(t, y)); got != cmp.Compare(i, j) {
				t.Errorf("%s, %s: %d", x, y, got)
			}
		}
	}
}

// TestCompareNeighbours has numbers that differ only far behind their highest bits.
func TestCompareNeighbours(t *testing.T) {
	random := rand.New(rand.NewPCG(32, 1))
	for limbs := 1; limbs < 6; limbs++ {
		for range 30 {
			n, d := randomNatural(random, limbs), randomNatural(random, limbs)
			x := new(big.Rat).SetFrac(n, d)
			y := new(big.Rat).SetFrac(new(big.Int).Add(n, big.NewInt(1)), new(big.Int).Add(d, big.NewInt(1)))
			for _, pair := range [][2]*big.Rat{{x, y}, {y, x}, {x, x}, {new(big.Rat).Neg(x), new(big.Rat).Neg(y)}} {
				if got := rational.Compare(fromBig(pair[0]), fromBig(pair[1])); got != pair[0].Cmp(pair[1]) {
					t.Errorf("%v, %v: %d", pair[0], pair[1], got)
				}
			}
		}
	}
}

// P3.3

func TestArithmetic(t *testing.T) {
	for _, x := range all() {
		for _, y := range all() {
			checkArithmetic(t, x, y)
		}
	}
}

func checkArithmetic(t *testing.T, x, y api.Rat) {
	t.Helper()
	v, w := toBig(x), toBig(y)
	same(t, "sum", rational.Add(x, y), new(big.Rat).Add(v, w))
	same(t, "difference", rational.Sub(x, y), new(big.Rat).Sub(v, w))
	same(t, "product", rational.Mul(x, y), new(big.Rat).Mul(v, w))
	got, err := rational.Div(x, y)
	if w.Sign() == 0 {
		if err != api.ErrZero || !equal(got, api.Rat{}) {
			t.Errorf("%v by 0: %v %v", x, got, err)
		}
		return
	}
	if err != api.OK {
		t.Errorf("%v by %v: %v", x, y, err)
	}
	same(t, "quotient", got, new(big.Rat).Quo(v, w))
}

func TestArithmeticSmall(t *testing.T) {
	var list []api.Rat
	for num := -9; num <= 9; num++ {
		for den := 1; den <= 12; den++ {
			list = append(list, fromBig(big.NewRat(int64(num), int64(den))))
		}
	}
	for _, x := range list {
		for _, y := range list {
			checkArithmetic(t, x, y)
			if got, want := rational.Compare(x, y), toBig(x).Cmp(toBig(y)); got != want {
				t.Errorf("%v, %v: %d", x, y, got)
			}
		}
	}
}

// TestArithmeticCommonDivisors has long denominators and numerators that share factors, which have to be cancelled.
func TestArithmeticCommonDivisors(t *testing.T) {
	random := rand.New(rand.NewPCG(33, 1))
	for range 1500 {
		a, b, c := randomNatural(random, 1+random.IntN(3)), randomNatural(random, 1+random.IntN(3)), randomNatural(random, 1+random.IntN(3))
		n, m := randomNatural(random, random.IntN(5)), randomNatural(random, random.IntN(5))
		if random.IntN(2) == 0 {
			n.Neg(n)
		}
		x := new(big.Rat).SetFrac(n, new(big.Int).Mul(a, b))
		y := new(big.Rat).SetFrac(m, new(big.Int).Mul(a, c))
		checkArithmetic(t, fromBig(x), fromBig(y))
		checkArithmetic(t, fromBig(x), fromBig(new(big.Rat).Inv(y)))
		// A sum whose numerator cancels a part of the common denominator.
		rest := new(big.Rat).Sub(new(big.Rat).SetFrac(n, b), x)
		checkArithmetic(t, fromBig(x), fromBig(rest))
		checkArithmetic(t, fromBig(x), fromBig(new(big.Rat).Neg(rest)))
		checkArithmetic(t, fromBig(x), fromBig(x))
		checkArithmetic(t, fromBig(x), fromBig(new(big.Rat).Neg(x)))
	}
}

func TestArithmeticExamples(t *testing.T) {
	for _, x := range []struct{ x, y, sum, difference, product, quotient string }{
		{"1/2", "1/3", "5/6", "1/6", "1/6", "3/2"}, {"1/6", "1/10", "4/15", "1/15", "1/60", "5/3"}, {"-1/2", "1/2", "0", "-1", "-1/4", "-1"}, {"3", "-2", "1", "5", "-6", "-3/2"},
		{"0", "-7/5", "-7/5", "7/5", "0", "0"}, {"1/2", "1/2", "1", "0", "1/4", "1"}, {"4", "-1/4", "15/4", "17/4", "-1", "-16"}, {"2147483647", "2147483647", "4294967294", "0", "4611686014132420609", "1"},
		{"1/2147483647", "-1/2147483646", "-1/4611686011984936962", "4294967293/4611686011984936962", "-1/4611686011984936962", "-2147483646/2147483647"},
		{"2147483647/2147483646", "2147483647/2147483645", "9223372021822390277/4611686007689969670", "", "", ""},
		{"-9223372036854775808", "1", "-9223372036854775807", "-9223372036854775809", "-9223372036854775808", "-9223372036854775808"},
	} {
		a, b := mustParse(t, x.x), mustParse(t, x.y)
		quotient, err := rational.Div(a, b)
		got := []api.Rat{rational.Add(a, b), rational.Sub(a, b), rational.Mul(a, b), quotient}
		for i, want := range []string{x.sum, x.difference, x.product, x.quotient} {
			if want != "" && (err != api.OK || !equal(got[i], mustParse(t, want))) {
				t.Errorf("%s, %s: result %d is %s", x.x, x.y, i, rational.Format(got[i]))
			}
		}
	}
}

func TestLaws(t *testing.T) {
	random := rand.New(rand.NewPCG(34, 1))
	list := samples()
	for range 2000 {
		x, y, z := list[random.IntN(len(list))], list[random.IntN(len(list))], list[random.IntN(len(list))]
		if !equal(rational.Add(rational.Add(x, y), z), rational.Add(x, rational.Add(y, z))) || !equal(rational.Mul(rational.Mul(x, y), z), rational.Mul(x, rational.Mul(y, z))) {
			t.Errorf("not associative: %v %v %v", x, y, z)
		}
		if !equal(rational.Mul(x, rational.Add(y, z)), rational.Add(rational.Mul(x, y), rational.Mul(x, z))) {
			t.Errorf("not distributive: %v %v %v", x, y, z)
		}
		if !equal(rational.Sub(rational.Add(x, y), y), x) {
			t.Errorf("not inverted: %v %v", x, y)
		}
	}
}

func TestFloor(t *testing.T) {
	for _, x := range all() {
		v := toBig(x)
		// The remainder of DivMod is not negative for a positive denominator, so that its quotient is the floor.
		want, _ := new(big.Int).DivMod(v.Num(), v.Denom(), new(big.Int))
		if got := rational.Floor(x); !slices.Equal(got.Mag, limbsOf(want)) || got.Neg != (want.Sign() < 0) {
			t.Errorf("floor of %v: %v", x, got)
		}
	}
	for s, want := range map[string]int{"-3/2": -2, "3/2": 1, "-1/2": -1, "1/2": 0, "-1/1000": -1, "999/1000": 0, "-999/1000": -1, "-1001/1000": -2, "0": 0, "-3": -3, "3": 3, "-1/18446744073709551616": -1, "-2147483648": -2147483648} {
		if got := rational.Floor(mustParse(t, s)); !equal(api.Rat{Num: got}, rational.FromInt(want)) {
			t.Errorf("floor of %s: %v", s, got)
		}
	}
}
