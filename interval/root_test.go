package interval_test

import (
	"math"
	"math/big"
	"math/rand/v2"
	"strings"
	"testing"

	"robuststats/api"
	"robuststats/interval"
	"robuststats/rational"
)

// P4.4

// checkRoot checks the properties of P4.4 for a v that is not negative.
func checkRoot(t *testing.T, v *big.Rat, bits int) {
	t.Helper()
	got, err := interval.Root(fromBig(v), bits)
	if err != api.OK || !interval.Valid(got) {
		t.Errorf("root of %.60s with %d bits: %v %v", v, bits, got, err)
		return
	}
	unit := new(big.Rat).SetFrac(big.NewInt(1), new(big.Int).Lsh(big.NewInt(1), uint(bits)))
	lo := toBig(got.Lo)
	next := new(big.Rat).Add(lo, unit)
	steps := new(big.Rat).Quo(lo, unit)
	square := new(big.Rat).Mul(lo, lo)
	if lo.Sign() < 0 || !steps.IsInt() || square.Cmp(v) > 0 || new(big.Rat).Mul(next, next).Cmp(v) <= 0 {
		t.Errorf("root of %.60s with %d bits: Lo is %.60s", v, bits, lo)
	}
	hi := next
	if square.Cmp(v) == 0 {
		hi = lo
	}
	same(t, "root", got, span{lo, hi})
}

func TestRootSmall(t *testing.T) {
	for num := int64(0); num <= 120; num++ {
		for den := int64(1); den <= 24; den++ {
			for _, bits := range []int{0, 1, 2, 3, 7} {
				checkRoot(t, big.NewRat(num, den), bits)
			}
		}
	}
}

// TestRootOfSquares has squares of numbers that are multiples of 2^-bits, or of half of it, and their neighbours.
func TestRootOfSquares(t *testing.T) {
	random := rand.New(rand.NewPCG(4, 4))
	for bits := range api.MaxBits + 1 {
		for range 4 {
			size := new(big.Int).Lsh(big.NewInt(random.Int64N(1<<40)+1), uint(random.IntN(bits+40)))
			root := new(big.Rat).SetFrac(size.Sub(size, big.NewInt(random.Int64N(2))), new(big.Int).Lsh(big.NewInt(1), uint(bits+random.IntN(2))))
			square := new(big.Rat).Mul(root, root)
			beside := new(big.Rat).SetFrac(big.NewInt(1), new(big.Int).Lsh(big.NewInt(1), uint(2*bits+random.IntN(90))))
			checkRoot(t, square, bits)
			checkRoot(t, new(big.Rat).Add(square, beside), bits)
			if less := new(big.Rat).Sub(square, beside); less.Sign() >= 0 {
				checkRoot(t, less, bits)
			}
		}
	}
}

func TestRootPowersOfTwo(t *testing.T) {
	for k := range 140 {
		power := new(big.Rat).SetInt(new(big.Int).Lsh(big.NewInt(1), uint(k)))
		less := new(big.Rat).Sub(power, big.NewRat(1, 1))
		more := new(big.Rat).Add(power, big.NewRat(1, 1))
		for _, bits := range []int{0, 1, 31, 32, 33, 64, 127, 128} {
			for _, v := range []*big.Rat{power, less, more, new(big.Rat).Inv(power), new(big.Rat).Inv(more)} {
				checkRoot(t, v, bits)
			}
		}
	}
}

func TestRootLong(t *testing.T) {
	random := rand.New(rand.NewPCG(4, 5))
	for _, digits := range []int{20, 100, 999, api.MaxDigits} {
		num, _ := new(big.Int).SetString("7"+strings.Repeat("3", digits-1), 10)
		den, _ := new(big.Int).SetString("9"+strings.Repeat("1", random.IntN(digits)), 10)
		square := new(big.Int).Mul(num, num)
		for _, v := range []*big.Rat{new(big.Rat).SetInt(num), new(big.Rat).SetFrac(num, den), new(big.Rat).SetFrac(den, num), new(big.Rat).SetInt(square), new(big.Rat).SetInt(square.Sub(square, big.NewInt(1)))} {
			for _, bits := range []int{0, 5, 128} {
				checkRoot(t, v, bits)
			}
		}
	}
}

func TestRootExamples(t *testing.T) {
	for _, x := range []struct {
		v    string
		bits int
		want string
	}{
		{"2", 2, "[5/4, 3/2]"}, {"9/4", 1, "[3/2, 3/2]"}, {"9/4", 0, "[1, 2]"}, {"9/4", 128, "[3/2, 3/2]"}, {"0", 0, "[0, 0]"}, {"0", 128, "[0, 0]"}, {"1", 0, "[1, 1]"}, {"3", 0, "[1, 2]"}, {"4", 0, "[2, 2]"}, {"1/4", 0, "[0, 1]"}, {"1/4", 1, "[1/2, 1/2]"},
		{"1/9", 3, "[1/4, 3/8]"}, {"1/1000000", 4, "[0, 1/16]"}, {"100", 5, "[10, 10]"}, {"99", 0, "[9, 10]"}, {"101", 0, "[10, 11]"}, {"1/18446744073709551616", 32, "[1/4294967296, 1/4294967296]"}, {"1/18446744073709551616", 31, "[0, 1/2147483648]"},
	} {
		if got, err := interval.Root(number(t, x.v), x.bits); err != api.OK || show(got) != x.want {
			t.Errorf("root of %s with %d bits: %s %v", x.v, x.bits, show(got), err)
		}
	}
	got, _ := interval.Root(number(t, "2"), 128)
	if text := rational.Decimal(got.Lo, 37); text != "1.4142135623730950488016887242096980786" {
		t.Errorf("root of 2: %s", text)
	}
}

func TestRootErrors(t *testing.T) {
	for _, s := range []string{"-1", "-2", "-1/1000000", "-18446744073709551617/3"} {
		for _, bits := range []int{math.MinInt, -1, 0, 5, 128, 129, math.MaxInt} {
			checkNoRoot(t, number(t, s), bits)
		}
	}
	for _, v := range append(invalid(), api.Rat{}, number(t, "2"), number(t, "9/4"), number(t, "18446744073709551617/3")) {
		for _, bits := range []int{math.MinInt, -128, -2, -1, 129, 130, 1 << 32, math.MaxInt} {
			checkNoRoot(t, v, bits)
		}
	}
}

func checkNoRoot(t *testing.T, v api.Rat, bits int) {
	t.Helper()
	if got, err := interval.Root(v, bits); err != api.ErrRange || !isZero(got) {
		t.Errorf("root of %v with %d bits: %v %v", v, bits, got, err)
	}
}

func TestRootOfInvalid(t *testing.T) {
	for _, v := range invalid() {
		for _, bits := range []int{0, 1, 128} {
			if got, err := interval.Root(v, bits); err != api.OK || !isZero(got) {
				t.Errorf("root of %v with %d bits: %v %v", v, bits, got, err)
			}
		}
	}
}
