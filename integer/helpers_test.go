package integer_test

import (
	"math"
	"math/big"
	"math/rand/v2"
	"slices"
	"strconv"
	"testing"

	"robuststats/api"
	"robuststats/integer"
)

const (
	top  = math.MaxUint32
	half = 1 << 31
)

// minus and plus are the integers with these limbs, valid or not.
func minus(limbs ...uint32) api.Int { return api.Int{Neg: true, Mag: limbs} }
func plus(limbs ...uint32) api.Int  { return api.Int{Mag: limbs} }

// invalid are values that stand for no integer and count as 0.
func invalid() []api.Int {
	return []api.Int{
		{Neg: true}, {Neg: true, Mag: []uint32{}}, plus(0), minus(0), plus(5, 0), minus(5, 0), plus(0, 0), minus(0, 0),
		plus(1, 2, 0), minus(1, 2, 0), minus(top, top, top, 0, 0),
	}
}

// sizes are absolute values: 0, those at which carries and the bounds of an int are, and some others of up to 6 limbs.
func sizes() [][]uint32 {
	list := [][]uint32{
		nil, {1}, {2}, {3}, {7}, {10}, {half}, {top}, {0, 1}, {1, 1}, {top, half - 1}, {0, half}, {1, half}, {top, top},
		{0, 0, 1}, {top, top, top}, {0, 0, 0, 1},
	}
	random := rand.New(rand.NewPCG(2, 2))
	for limbs := 1; limbs <= 6; limbs++ {
		for range 3 {
			size := make([]uint32, limbs)
			for i := range size {
				size[i] = random.Uint32() | 1
			}
			list = append(list, size)
		}
	}
	return list
}

// samples are valid integers of both signs.
func samples() []api.Int {
	var list []api.Int
	for _, size := range sizes() {
		list = append(list, plus(size...))
		if len(size) > 0 {
			list = append(list, minus(slices.Clone(size)...))
		}
	}
	return list
}

// all are integers and values that are none.
func all() []api.Int {
	return append(samples(), invalid()...)
}

// isInvalid is P2.1 in its own words.
func isInvalid(x api.Int) bool {
	n := len(x.Mag)
	return n > 0 && x.Mag[n-1] == 0 || n == 0 && x.Neg
}

// toBig returns what x stands for, by its definition.
func toBig(x api.Int) *big.Int {
	v := new(big.Int)
	if isInvalid(x) {
		return v
	}
	for i := len(x.Mag) - 1; i >= 0; i-- {
		v.Lsh(v, 32)
		v.Add(v, new(big.Int).SetUint64(uint64(x.Mag[i])))
	}
	if x.Neg {
		v.Neg(v)
	}
	return v
}

// fromBig returns the one valid representation of a value.
func fromBig(v *big.Int) api.Int {
	x := api.Int{Neg: v.Sign() < 0}
	for rest := new(big.Int).Abs(v); rest.Sign() > 0; rest.Rsh(rest, 32) {
		x.Mag = append(x.Mag, uint32(rest.Uint64()))
	}
	return x
}

func equal(x, y api.Int) bool { return x.Neg == y.Neg && slices.Equal(x.Mag, y.Mag) }

// same fails the test if a result is not the one valid representation of what is wanted.
func same(t *testing.T, what string, got api.Int, want *big.Int) {
	t.Helper()
	if !equal(got, fromBig(want)) {
		t.Errorf("%s: %v, not %v", what, got, fromBig(want))
	}
}

// results calls every function that returns numbers; a divisor is listed as an integer.
func results(x, y api.Int) []api.Int {
	q, r, _ := integer.Div(x, y)
	p, _ := integer.Parse("-98765432109876543210")
	return []api.Int{
		integer.Neg(x), integer.Neg(y), integer.Add(x, y), integer.Sub(x, y), integer.Mul(x, y), q, r,
		{Mag: integer.Gcd(x, y)}, integer.FromInt(-1 << 40), p,
	}
}

// answers calls every function of x and y but Valid, and writes the results as text.
func answers(x, y api.Int) []string {
	v, fits := integer.ToInt(x)
	_, _, divided := integer.Div(x, y)
	text := []string{
		strconv.Itoa(v), strconv.FormatBool(fits), strconv.FormatBool(divided), strconv.Itoa(integer.Sign(x)),
		strconv.Itoa(integer.Compare(x, y)), integer.Format(x),
	}
	for _, z := range results(x, y) {
		text = append(text, strconv.FormatBool(z.Neg)+" "+toBig(z).String()+" "+strconv.Itoa(len(z.Mag)))
	}
	return text
}
