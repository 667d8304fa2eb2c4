package design_test

import (
	"math/big"
	"math/rand/v2"
	"slices"
	"strings"
	"testing"

	"robuststats/api"
	"robuststats/design"
	"robuststats/matrix"
	"robuststats/rational"
)

// showUsed writes 1 for a used column and 0 for another one.
func showUsed(used []bool) string {
	text := ""
	for _, is := range used {
		text += map[bool]string{true: "1", false: "0"}[is]
	}
	return text
}

// dependences expects the result of Alias.
func dependences(t *testing.T, m [][]api.Rat, used, by string) {
	t.Helper()
	u, b, e := design.Alias(m)
	if showUsed(u) != used || showRows(b) != by || len(b) != len(u) || e != api.OK {
		t.Errorf("%.300s: %s, %.300s, error %d, not %s, %.300s", showRows(m), showUsed(u), showRows(b), e, used, by)
	}
	if !areValid(b) {
		t.Errorf("%.300s: a number is not valid", showRows(m))
	}
}

// misshapen expects ErrShape, and no result.
func misshapen(t *testing.T, m [][]api.Rat) {
	t.Helper()
	if used, by, e := design.Alias(m); len(used) > 0 || len(by) > 0 || e != api.ErrShape {
		t.Errorf("%.300s: %v, %.300s, error %d", showRows(m), used, showRows(by), e)
	}
}

// P12.3: the first column that is not 0 is used, and each other one is a sum of used ones before it, or used itself.
func TestAlias(t *testing.T) {
	for _, v := range []struct{ rows, used, by string }{
		{"3", "1", "1"}, {"0", "0", "-"}, {"0 0; 0 0", "00", "-; -"}, {"1 0; 0 1", "11", "1 0; 0 1"}, {"0 1; 1 0", "11", "1 0; 0 1"}, {"2 3", "10", "1; 3/2"}, {"0 2 3 0", "0100", "0; 1; 3/2; 0"},
		{"1 1; 1 2; 1 3", "11", "1 0; 0 1"}, {"1 2 0; 1 2 1; 1 2 3", "101", "1 0; 2 0; 0 1"}, {"1 2 3; 4 5 6; 7 8 9", "110", "1 0; 0 1; -1 2"}, {"1 0 1 0; 0 1 1 0; 0 0 0 1", "1101", "1 0 0; 0 1 0; 1 1 0; 0 0 1"}, {"1/2 1/3 1/6; 1 0 1", "110", "1 0; 0 1; 1 -1"}, {"1 -1/3 2/3", "100", "1; -1/3; 2/3"},
		{"1; 2; 3", "1", "1"}, {"0; 0; -7", "1", "1"}, {"1 1 1 1; 1 1 1 1", "1000", "1; 1; 1; 1"}, {"0 0 1; 0 1 0; 1 0 0", "111", "1 0 0; 0 1 0; 0 0 1"},
	} {
		dependences(t, numbers(t, v.rows), v.used, v.by)
	}
}

// P12.3: an empty matrix has no columns.
func TestAliasOfNothing(t *testing.T) {
	dependences(t, nil, "", "")
	dependences(t, [][]api.Rat{}, "", "")
}

// P12.3: lists that are not well-formed are ErrShape.
func TestAliasShape(t *testing.T) {
	for _, text := range []string{"1 2; 3", "1; 2 3", "-", "-; -", "1; -", "-; 1", "1 2; 3 4; 5 6 7"} {
		misshapen(t, numbers(t, text))
	}
	rows := func(n, columns int) [][]api.Rat {
		m := make([][]api.Rat, n)
		for i := range m {
			m[i] = make([]api.Rat, columns)
		}
		return m
	}
	misshapen(t, rows(97, 1))
	misshapen(t, rows(1, 97))
	misshapen(t, rows(97, 97))
	dependences(t, rows(96, 1), "0", "-")
	dependences(t, rows(1, 96), strings.Repeat("0", 96), strings.Repeat("; -", 96)[2:])
	dependences(t, append(rows(95, 96), numbers(t, strings.Repeat("0 ", 95)+"5")...), strings.Repeat("0", 95)+"1", strings.Repeat("0; ", 95)+"1")
}

// A made is a sum of multiples of used columns, with its multiples, and the number of a row in which it is not 0.
type made struct {
	sum, multiples []*big.Rat
	row            int
}

// minus subtracts a multiple of w from v.
func minus(v []*big.Rat, f *big.Rat, w []*big.Rat) {
	for i := range w {
		v[i] = new(big.Rat).Sub(v[i], new(big.Rat).Mul(f, w[i]))
	}
}

// expectedAlias looks at the columns one by one: what earlier sums do not explain of a column is another sum.
func expectedAlias(m [][]api.Rat) (used []bool, by [][]api.Rat) {
	var sums []made
	var multiples [][]*big.Rat
	for j := range m[0] {
		rest, rests := make([]*big.Rat, len(m)), make([]*big.Rat, len(m[0]))
		for i := range m {
			rest[i] = toBig(m[i][j])
		}
		for k := range rests {
			rests[k] = new(big.Rat)
		}
		rests[len(sums)].SetInt64(1)
		for _, s := range sums {
			f := new(big.Rat).Quo(rest[s.row], s.sum[s.row])
			minus(rest, f, s.sum)
			minus(rests, f, s.multiples)
		}
		row := slices.IndexFunc(rest, func(v *big.Rat) bool { return v.Sign() != 0 })
		used = append(used, row >= 0)
		own := make([]*big.Rat, len(m[0]))
		for k := range own {
			own[k] = new(big.Rat)
		}
		if row >= 0 {
			own[len(sums)].SetInt64(1)
			sums = append(sums, made{rest, rests, row})
		} else {
			rests[len(sums)].SetInt64(0)
			minus(own, big.NewRat(1, 1), rests)
		}
		multiples = append(multiples, own)
	}
	for _, own := range multiples {
		var list []api.Rat
		for _, v := range own[:len(sums)] {
			list = append(list, fromBig(v))
		}
		by = append(by, list)
	}
	return used, by
}

// P12.3: drawn matrices, compared with the dependences found column by column.
func TestDrawnAlias(t *testing.T) {
	random := rand.New(rand.NewPCG(12, 2))
	for range 2000 {
		m := drawnMatrix(random, 1+random.IntN(7), 1+random.IntN(9))
		used, by := expectedAlias(m)
		dependences(t, m, showUsed(used), showRows(by))
	}
}

// P12.3: the largest matrices, whose columns are sums of few.
func TestLargeAlias(t *testing.T) {
	random := rand.New(rand.NewPCG(12, 3))
	for _, size := range [][2]int{{96, 96}, {96, 12}, {5, 96}} {
		a, b := make([][]api.Rat, size[0]), make([][]api.Rat, 5)
		for i := range a {
			for range 5 {
				a[i] = append(a[i], rational.FromInt(random.IntN(19)-9))
			}
		}
		for i := range b {
			for range size[1] {
				b[i] = append(b[i], rational.FromInt(random.IntN(3)-1))
			}
		}
		m, _ := matrix.Mul(a, b)
		used, by := expectedAlias(m)
		dependences(t, m, showUsed(used), showRows(by))
	}
}

// P12.3: what the chapter says of the results: the numbers of a used column are those of the unit matrix, and each column is the sum, of columns before it alone.
func TestAliasIsASum(t *testing.T) {
	random := rand.New(rand.NewPCG(12, 4))
	for range 500 {
		m := drawnMatrix(random, 1+random.IntN(6), 1+random.IntN(8))
		used, by, e := design.Alias(m)
		var places []int
		for j, is := range used {
			if is {
				places = append(places, j)
			}
		}
		for j := range m[0] {
			for i := range m {
				sum := api.Rat{}
				for k, at := range places {
					sum = rational.Add(sum, rational.Mul(by[j][k], m[i][at]))
				}
				if rational.Compare(sum, m[i][j]) != 0 {
					t.Errorf("%s: column %d, row %d: %s", showRows(m), j, i, rational.Format(sum))
				}
			}
			for k, at := range places {
				if at > j && rational.Sign(by[j][k]) != 0 || at == j && rational.Compare(by[j][k], rational.FromInt(1)) != 0 || used[j] && at != j && rational.Sign(by[j][k]) != 0 {
					t.Errorf("%s: column %d has %s times column %d", showRows(m), j, rational.Format(by[j][k]), at)
				}
			}
		}
		if rank, f := matrix.Rank(m); rank != len(places) || e != api.OK || f != api.OK {
			t.Errorf("%s: rank %d, %d used", showRows(m), rank, len(places))
		}
	}
}

// R7: a number that is not valid counts as 0.
func TestAliasOfInvalidNumbers(t *testing.T) {
	for _, bad := range invalid() {
		m := numbers(t, "1 0 1 0; 0 3 0 0; 2 0 1 0")
		n := numbers(t, "1 0 1 0; 0 3 0 0; 2 0 1 0")
		for i := range m {
			n[i][1+2*(i%2)], n[i][3] = bad, bad
		}
		n[1][2] = bad
		dependences(t, n, "1110", "1 0 0; 0 1 0; 0 0 1; 0 0 0")
		dependences(t, m, "1110", "1 0 0; 0 1 0; 0 0 1; 0 0 0")
		dependences(t, [][]api.Rat{{bad, rational.FromInt(2), bad}}, "010", "0; 1; 0")
	}
}

// invalid are values that are no numbers.
func invalid() []api.Rat {
	return []api.Rat{
		{Num: api.Int{Neg: true}}, {Den: []uint32{2}}, {Num: api.Int{Mag: []uint32{2}}, Den: []uint32{1}}, {Num: api.Int{Mag: []uint32{2}}, Den: []uint32{4}}, {Num: api.Int{Mag: []uint32{3}}, Den: []uint32{0}}, {Num: api.Int{Mag: []uint32{3, 0}}}, {Num: api.Int{Mag: []uint32{1}}, Den: []uint32{5, 0}},
	}
}
