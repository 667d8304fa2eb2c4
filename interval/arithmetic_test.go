package interval_test

import (
	"math/big"
	"math/rand/v2"
	"testing"

	"robuststats/api"
	"robuststats/interval"
	"robuststats/rational"
)

// P4.2

// combined is the least span of all values that an operation has for numbers of two spans.
func combined(s, r span, operation func(z, x, y *big.Rat) *big.Rat) span {
	var values []*big.Rat
	for _, x := range s.points() {
		for _, y := range r.points() {
			values = append(values, operation(new(big.Rat), x, y))
		}
	}
	return around(values)
}

func TestArithmetic(t *testing.T) {
	for _, a := range all(t) {
		for _, b := range all(t) {
			checkArithmetic(t, a, b)
		}
	}
}

func checkArithmetic(t *testing.T, a, b api.Interval) {
	t.Helper()
	s, r := meaning(a), meaning(b)
	same(t, "sums", interval.Add(a, b), combined(s, r, (*big.Rat).Add))
	same(t, "differences", interval.Sub(a, b), combined(s, r, (*big.Rat).Sub))
	same(t, "products", interval.Mul(a, b), combined(s, r, (*big.Rat).Mul))
	got, err := interval.Div(a, b)
	if r.contains(new(big.Rat)) {
		if err != api.ErrZero || !isZero(got) {
			t.Errorf("%v by %v: %v %v", a, b, got, err)
		}
		return
	}
	if err != api.OK {
		t.Errorf("%v by %v: %v", a, b, err)
	}
	same(t, "quotients", got, combined(s, r, (*big.Rat).Quo))
}

func TestSquare(t *testing.T) {
	for _, a := range all(t) {
		var values []*big.Rat
		for _, x := range meaning(a).points() {
			values = append(values, new(big.Rat).Mul(x, x))
		}
		same(t, "squares", interval.Square(a), around(values))
	}
}

func TestArithmeticExamples(t *testing.T) {
	for _, x := range []struct{ a, b, c, d, add, sub, mul, div string }{
		{"1", "2", "3", "4", "[4, 6]", "[-3, -1]", "[3, 8]", "[1/4, 2/3]"}, {"-1", "2", "3", "4", "[2, 6]", "[-5, -1]", "[-4, 8]", "[-1/3, 2/3]"}, {"-2", "-1", "3", "4", "[1, 3]", "[-6, -4]", "[-8, -3]", "[-2/3, -1/4]"},
		{"1", "2", "-3", "1", "[-2, 3]", "[0, 5]", "[-6, 2]", ""}, {"-1", "2", "-3", "1", "[-4, 3]", "[-2, 5]", "[-6, 3]", ""}, {"-2", "1", "-3", "1", "[-5, 2]", "[-3, 4]", "[-3, 6]", ""}, {"-2", "-1", "-3", "1", "[-5, 0]", "[-3, 2]", "[-2, 6]", ""},
		{"1", "2", "-4", "-3", "[-3, -1]", "[4, 6]", "[-8, -3]", "[-2/3, -1/4]"}, {"-1", "2", "-4", "-3", "[-5, -1]", "[2, 6]", "[-8, 4]", "[-2/3, 1/3]"}, {"-2", "-1", "-4", "-3", "[-6, -4]", "[1, 3]", "[3, 8]", "[1/4, 2/3]"},
		{"1/2", "1/2", "-2", "-1", "[-3/2, -1/2]", "[3/2, 5/2]", "[-1, -1/2]", "[-1/2, -1/4]"}, {"0", "0", "-5", "5", "[-5, 5]", "[-5, 5]", "[0, 0]", ""}, {"0", "0", "1", "3", "[1, 3]", "[-3, -1]", "[0, 0]", "[0, 0]"}, {"6", "6", "2", "2", "[8, 8]", "[4, 4]", "[12, 12]", "[3, 3]"},
		{"2", "1", "3", "4", "[3, 4]", "[-4, -3]", "[0, 0]", "[0, 0]"}, {"3", "4", "2", "1", "[3, 4]", "[3, 4]", "[0, 0]", ""},
		{"1", "2", "0", "1", "[1, 3]", "[0, 2]", "[0, 2]", ""}, {"1", "2", "-1", "0", "[0, 2]", "[1, 3]", "[-2, 0]", ""}, {"0", "0", "0", "0", "[0, 0]", "[0, 0]", "[0, 0]", ""},
	} {
		a, b := pair(t, x.a, x.b), pair(t, x.c, x.d)
		if got := [3]string{show(interval.Add(a, b)), show(interval.Sub(a, b)), show(interval.Mul(a, b))}; got != [3]string{x.add, x.sub, x.mul} {
			t.Errorf("%s, %s: %v", show(a), show(b), got)
		}
		got, err := interval.Div(a, b)
		if x.div == "" && (err != api.ErrZero || !isZero(got)) || x.div != "" && (err != api.OK || show(got) != x.div) {
			t.Errorf("%s by %s: %s %v", show(a), show(b), show(got), err)
		}
	}
}

func TestSquareExamples(t *testing.T) {
	for _, x := range [][3]string{{"-1", "2", "[0, 4]"}, {"-2", "1", "[0, 4]"}, {"-2", "2", "[0, 4]"}, {"1", "2", "[1, 4]"}, {"-3", "-2", "[4, 9]"}, {"0", "0", "[0, 0]"}, {"-3", "0", "[0, 9]"}, {"0", "3", "[0, 9]"}, {"-1/2", "-1/2", "[1/4, 1/4]"}, {"2", "1", "[0, 0]"}, {"-1", "-2", "[0, 0]"}} {
		if got := show(interval.Square(pair(t, x[0], x[1]))); got != x[2] {
			t.Errorf("%v: %s", x, got)
		}
	}
}

func TestDivByInvalid(t *testing.T) {
	a := pair(t, "1", "2")
	for _, b := range []api.Interval{pair(t, "2", "1"), pair(t, "-1", "-2"), {Lo: invalid()[0], Hi: number(t, "5")}, {Lo: number(t, "-5"), Hi: invalid()[0]}, {Lo: number(t, "5"), Hi: invalid()[0]}, {Lo: invalid()[0], Hi: invalid()[1]}} {
		if got, err := interval.Div(a, b); err != api.ErrZero || !isZero(got) {
			t.Errorf("by %v: %v %v", b, got, err)
		}
	}
}

// randomInterval has ends from -1000 to 1000.
func randomInterval(random *rand.Rand) api.Interval {
	end := func() api.Rat {
		return fromBig(big.NewRat(random.Int64N(2001)-1000, 1+random.Int64N(1000)))
	}
	a := api.Interval{Lo: end(), Hi: end()}
	if !interval.Valid(a) {
		a.Lo, a.Hi = a.Hi, a.Lo
	}
	return a
}

// inside is a number of an interval.
func inside(random *rand.Rand, a api.Interval) api.Rat {
	share := fromBig(big.NewRat(random.Int64N(101), 100))
	return rational.Add(a.Lo, rational.Mul(share, interval.Width(a)))
}

func TestResultsOfNumbersAreContained(t *testing.T) {
	random := rand.New(rand.NewPCG(4, 2))
	for range 3000 {
		a, b := randomInterval(random), randomInterval(random)
		x, y := inside(random, a), inside(random, b)
		quotients, err := interval.Div(a, b)
		quotient, _ := rational.Div(x, y)
		if !interval.Contains(interval.Add(a, b), rational.Add(x, y)) || !interval.Contains(interval.Sub(a, b), rational.Sub(x, y)) || !interval.Contains(interval.Mul(a, b), rational.Mul(x, y)) || err == api.OK && !interval.Contains(quotients, quotient) || !interval.Contains(interval.Square(a), rational.Mul(x, x)) {
			t.Errorf("%s of %s, %s of %s", rational.Format(x), show(a), rational.Format(y), show(b))
		}
	}
}

// Consequences

// part is an interval within a.
func part(random *rand.Rand, a api.Interval) api.Interval {
	x, y := inside(random, a), inside(random, a)
	if rational.Compare(x, y) > 0 {
		x, y = y, x
	}
	return api.Interval{Lo: x, Hi: y}
}

func TestOperationsKeepWithin(t *testing.T) {
	random := rand.New(rand.NewPCG(4, 3))
	for range 1000 {
		c, d := randomInterval(random), randomInterval(random)
		a, b := part(random, c), part(random, d)
		ab, errSmall := interval.Div(a, b)
		cd, errLarge := interval.Div(c, d)
		if errLarge == api.OK && (errSmall != api.OK || !interval.Within(ab, cd)) {
			t.Errorf("quotients: %s by %s, %s by %s", show(a), show(b), show(c), show(d))
		}
		if !interval.Within(interval.Add(a, b), interval.Add(c, d)) || !interval.Within(interval.Sub(a, b), interval.Sub(c, d)) || !interval.Within(interval.Mul(a, b), interval.Mul(c, d)) || !interval.Within(interval.Square(a), interval.Square(c)) || !interval.Within(interval.Hull(a, b), interval.Hull(c, d)) {
			t.Errorf("%s, %s, %s, %s", show(a), show(b), show(c), show(d))
		}
	}
}

func TestSquareWithinMul(t *testing.T) {
	for _, a := range all(t) {
		if !interval.Within(interval.Square(a), interval.Mul(a, a)) {
			t.Errorf("%v: %v, %v", a, interval.Square(a), interval.Mul(a, a))
		}
	}
}
