package natural_test

import (
	"math/big"
	"slices"
	"strconv"
	"testing"

	"robuststats/natural"
)

const top = 1<<32 - 1

// generator is a fixed sequence of numbers, so that every run tests the same inputs.
type generator uint64

func (g *generator) next() uint64 {
	*g ^= *g << 13
	*g ^= *g >> 7
	*g ^= *g << 17
	return uint64(*g)
}

// limb prefers the limbs at which carries and estimated quotients go wrong.
func (g *generator) limb() uint32 {
	edges := []uint32{0, 1, 2, top, top - 1, 1 << 31, 1<<31 - 1, 1<<31 + 1}
	v := g.next() >> 16
	if v%2 == 0 {
		return edges[v/2%uint64(len(edges))]
	}
	return uint32(v >> 8)
}

// number has exactly so many limbs.
func (g *generator) number(limbs int) []uint32 {
	a := make([]uint32, limbs)
	for i := range a {
		a[i] = g.limb()
	}
	if limbs > 0 && a[limbs-1] == 0 {
		a[limbs-1] = 1
	}
	return a
}

// samples are numbers of 0 to 9 limbs.
func samples() [][]uint32 {
	g := generator(20250101)
	list := [][]uint32{nil, {1}, {2}, {10}, {top}, {0, 1}, {1, 1}, {top, top}, {0, 0, 1}, {top, top, top}, {0, 0, 0, 1}, {0, 1 << 31}, {0, 0, 1 << 31}}
	for limbs := 1; limbs < 10; limbs++ {
		for range 5 {
			list = append(list, g.number(limbs))
		}
	}
	return list
}

// invalid are lists whose last limb is 0.
func invalid() [][]uint32 {
	return [][]uint32{{0}, {5, 0}, {0, 0}, {1, 2, 0}, {0, 0, 7, 0}, {top, top, top, 0, 0}}
}

// toBig returns the value of a list of limbs, by its definition.
func toBig(a []uint32) *big.Int {
	v := new(big.Int)
	for i := len(a) - 1; i >= 0; i-- {
		v.Lsh(v, 32)
		v.Add(v, new(big.Int).SetUint64(uint64(a[i])))
	}
	return v
}

func fromBig(v *big.Int) []uint32 {
	var a []uint32
	for rest := new(big.Int).Set(v); rest.Sign() > 0; rest.Rsh(rest, 32) {
		a = append(a, uint32(rest.Uint64()))
	}
	return a
}

// same fails the test if a result is not the one valid representation of what is wanted.
func same(t *testing.T, what string, got []uint32, want *big.Int) {
	t.Helper()
	if !slices.Equal(got, fromBig(want)) {
		t.Errorf("%s: %v, not %v", what, got, fromBig(want))
	}
}

// lists calls every function that returns limbs.
func lists(a, b []uint32) [][]uint32 {
	d, _ := natural.Sub(a, b)
	q, r, _ := natural.Div(a, b)
	p, _ := natural.Parse("98765432109876543210")
	return [][]uint32{
		natural.Add(a, b), d, natural.Mul(a, b), q, r, natural.Gcd(a, b), natural.Root(a),
		natural.Power(a, 0), natural.Power(a, 1), natural.Power(a, 3), natural.FromUint(1 << 40), p,
	}
}

// answers calls every function of a and b but Valid, and writes the results as text.
func answers(a, b []uint32) []string {
	v, fits := natural.Uint(a)
	_, some := natural.Sub(a, b)
	_, _, divided := natural.Div(a, b)
	text := []string{
		strconv.FormatUint(v, 10), strconv.FormatBool(fits), strconv.FormatBool(some), strconv.FormatBool(divided),
		strconv.Itoa(natural.Compare(a, b)), natural.Format(a),
	}
	for _, list := range lists(a, b) {
		text = append(text, toBig(list).String()+" "+strconv.Itoa(len(list)))
	}
	return text
}

func mustParse(t *testing.T, s string) []uint32 {
	t.Helper()
	a, ok := natural.Parse(s)
	if !ok {
		t.Fatalf("%.40s is not read", s)
	}
	return a
}
