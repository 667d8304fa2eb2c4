package matrix_test

import (
	"math/big"
	"math/rand/v2"
	"slices"
	"strconv"
	"strings"
	"testing"

	"robuststats/api"
	"robuststats/matrix"
	"robuststats/rational"
)

// invalid are values that stand for no number and count as 0.
func invalid() []api.Rat {
	limbs := func(list ...uint32) []uint32 { return list }
	return []api.Rat{
		{Num: api.Int{Mag: limbs(3)}, Den: limbs(1)}, {Num: api.Int{Neg: true, Mag: limbs(6)}, Den: limbs(4)}, {Num: api.Int{Mag: limbs(7)}, Den: limbs(2, 0)},
		{Den: limbs(2)}, {Num: api.Int{Neg: true}}, {Num: api.Int{Mag: limbs(5, 0)}}, {Num: api.Int{Neg: true, Mag: limbs(0, 0, 0)}, Den: limbs(0)},
	}
}

func number(t *testing.T, s string) api.Rat {
	t.Helper()
	x, ok := rational.Parse(s)
	if !ok {
		t.Fatalf("%.40s is no number", s)
	}
	return x
}

// list reads numbers that spaces separate.
func list(t *testing.T, text string) []api.Rat {
	t.Helper()
	var numbers []api.Rat
	for _, s := range strings.Fields(text) {
		numbers = append(numbers, number(t, s))
	}
	return numbers
}

// table reads rows that semicolons separate.
func table(t *testing.T, text string) [][]api.Rat {
	t.Helper()
	var rows [][]api.Rat
	for line := range strings.SplitSeq(text, ";") {
		if numbers := list(t, line); len(numbers) > 0 {
			rows = append(rows, numbers)
		}
	}
	return rows
}

// showList writes what list reads.
func showList(numbers []api.Rat) string {
	var text []string
	for _, x := range numbers {
		text = append(text, rational.Format(x))
	}
	return strings.Join(text, " ")
}

// show writes what table reads.
func show(m [][]api.Rat) string {
	var lines []string
	for _, row := range m {
		lines = append(lines, showList(row))
	}
	return strings.Join(lines, "; ")
}

// toBig returns what x stands for.
func toBig(x api.Rat) *big.Rat {
	v, _ := new(big.Rat).SetString(rational.Format(x))
	return v
}

// fromBig returns the one valid representation of a value.
func fromBig(v *big.Rat) api.Rat {
	x := api.Rat{Num: api.Int{Neg: v.Sign() < 0, Mag: limbsOf(v.Num())}}
	if !v.IsInt() {
		x.Den = limbsOf(v.Denom())
	}
	return x
}

func limbsOf(v *big.Int) []uint32 {
	var limbs []uint32
	for rest := new(big.Int).Abs(v); rest.Sign() > 0; rest.Rsh(rest, 32) {
		limbs = append(limbs, uint32(rest.Uint64()))
	}
	return limbs
}

// meaningOf returns the values of some numbers.
func meaningOf(numbers []api.Rat) []*big.Rat {
	var values []*big.Rat
	for _, x := range numbers {
		values = append(values, toBig(x))
	}
	return values
}

func meaning(m [][]api.Rat) [][]*big.Rat {
	var rows [][]*big.Rat
	for _, row := range m {
		rows = append(rows, meaningOf(row))
	}
	return rows
}

func representList(values []*big.Rat) []api.Rat {
	var numbers []api.Rat
	for _, v := range values {
		numbers = append(numbers, fromBig(v))
	}
	return numbers
}

func represent(rows [][]*big.Rat) [][]api.Rat {
	var m [][]api.Rat
	for _, row := range rows {
		m = append(m, representList(row))
	}
	return m
}

func equal(x, y api.Rat) bool {
	return x.Num.Neg == y.Num.Neg && slices.Equal(x.Num.Mag, y.Num.Mag) && slices.Equal(x.Den, y.Den)
}

func equalLists(x, y []api.Rat) bool {
	return slices.EqualFunc(x, y, equal)
}

// same fails the test if a result is not made of the valid representations of what is wanted.
func same(t *testing.T, what string, got [][]api.Rat, want [][]*big.Rat) {
	t.Helper()
	if m := represent(want); !slices.EqualFunc(got, m, equalLists) {
		t.Errorf("%s: %v, not %v", what, got, m)
	}
}

// sameList is same for a list of numbers.
func sameList(t *testing.T, what string, got []api.Rat, want []*big.Rat) {
	t.Helper()
	if numbers := representList(want); !equalLists(got, numbers) {
		t.Errorf("%s: %v, not %v", what, got, numbers)
	}
}

// width returns the number of columns.
func width[T any](rows [][]T) int {
	if len(rows) == 0 {
		return 0
	}
	return len(rows[0])
}

// turned returns the transposed matrix.
func turned[T any](rows [][]T) [][]T {
	var columns [][]T
	for j := range width(rows) {
		var column []T
		for _, row := range rows {
			column = append(column, row[j])
		}
		columns = append(columns, column)
	}
	return columns
}

// applied is the product with a column, with the functions of math/big.
func applied(rows [][]*big.Rat, column []*big.Rat) []*big.Rat {
	var values []*big.Rat
	for _, row := range rows {
		sum := new(big.Rat)
		for j, x := range row {
			sum.Add(sum, new(big.Rat).Mul(x, column[j]))
		}
		values = append(values, sum)
	}
	return values
}

// product multiplies matrices that fit.
func product(a, b [][]*big.Rat) [][]*big.Rat {
	var columns [][]*big.Rat
	for _, column := range turned(b) {
		columns = append(columns, applied(a, column))
	}
	return turned(columns)
}

// gauss brings rows to their reduced form, a column at a time, and returns the columns of the pivots.
func gauss(rows [][]*big.Rat) (reduced [][]*big.Rat, pivots []int) {
	for _, row := range rows {
		reduced = append(reduced, slices.Clone(row))
	}
	for c := range width(rows) {
		top := len(pivots)
		i := slices.IndexFunc(reduced[top:], func(row []*big.Rat) bool { return row[c].Sign() != 0 })
		if i < 0 {
			continue
		}
		pivots = append(pivots, c)
		reduced[top], reduced[top+i] = reduced[top+i], reduced[top]
		subtract(reduced[top], new(big.Rat).Sub(big.NewRat(1, 1), new(big.Rat).Inv(reduced[top][c])), reduced[top])
		for k, row := range reduced {
			if k != top {
				subtract(row, row[c], reduced[top])
			}
		}
	}
	return reduced, pivots
}

// subtract takes factor times another row, or the same one, from a row.
func subtract(row []*big.Rat, factor *big.Rat, other []*big.Rat) {
	for j := range row {
		row[j] = new(big.Rat).Sub(row[j], new(big.Rat).Mul(factor, other[j]))
	}
}

// expanded is the determinant, expanded along the first row.
func expanded(rows [][]*big.Rat) *big.Rat {
	sum := new(big.Rat)
	if len(rows) == 0 {
		return sum.SetInt64(1)
	}
	for j, x := range rows[0] {
		if x.Sign() == 0 {
			continue
		}
		var minor [][]*big.Rat
		for _, row := range rows[1:] {
			minor = append(minor, slices.Concat(row[:j], row[j+1:]))
		}
		part := new(big.Rat).Mul(x, expanded(minor))
		if j%2 == 1 {
			part.Neg(part)
		}
		sum.Add(sum, part)
	}
	return sum
}

// unit is the unit matrix.
func unit(n int) [][]*big.Rat {
	var rows [][]*big.Rat
	for i := range n {
		row := make([]*big.Rat, n)
		for j := range row {
			row[j] = new(big.Rat)
		}
		row[i].SetInt64(1)
		rows = append(rows, row)
	}
	return rows
}

// drawn is a matrix of small numbers, some of them fractions if den is greater than 1; every second number or so is 0 if sparse.
func drawn(random *rand.Rand, rows, columns int, den int64, sparse bool) [][]api.Rat {
	var m [][]api.Rat
	for range rows {
		row := drawnList(random, columns, den)
		for j := range row {
			if sparse && random.IntN(2) == 0 {
				row[j] = api.Rat{}
			}
		}
		m = append(m, row)
	}
	return m
}

func drawnList(random *rand.Rand, n int, den int64) []api.Rat {
	var numbers []api.Rat
	for range n {
		numbers = append(numbers, fromBig(big.NewRat(random.Int64N(19)-9, 1+random.Int64N(den))))
	}
	return numbers
}

// samples are matrices of many shapes and ranks, with zeros at the places where pivots are looked for, with fractions and with long numbers.
func samples(t *testing.T) [][][]api.Rat {
	t.Helper()
	matrices := [][][]api.Rat{nil, {}}
	for _, s := range []string{
		"0", "5", "-2/3", "0 0; 0 0", "0 0 0", "0; 0; 0", "1 2 0", "3; 2; 1", "0 1; 1 0", "0 2; 1 1", "1 2; 3 4", "2 4; 1 2", "1 1 1; 1 2 3; 1 3 6", "0 0 2; 0 3 0; 5 0 0", "1/2 1/3; 1/4 1/5", "0 0 3 1; 0 0 6 2", "0 0 1; 0 0 2; 0 1 5; 0 0 0",
		"1 2 3 4; 2 4 6 9; 3 6 9 14", "2 4 6; 1 2 4; 0 0 1; 1 2 3", "0 1 0 2 0; 0 0 0 0 7; 0 -1 0 3 1/6; 0 0 0 5 7", "1 0 0; 0 1/7 0; 0 0 -3", "1 2 3; 4 5 6; 7 8 9", "4 -2 6; 10 5/2 -15; 1/9 1/6 1/12", "0 -1 0 0; 0 0 0 -1; -1 0 0 0; 0 0 -1 0",
		"340282366920938463463374607431768211457/3 1; -18446744073709551617 1/4294967296", "18446744073709551616 36893488147419103232; 1/18446744073709551617 2/18446744073709551617", "99999999999999999999 1/99999999999999999999 0; 0 0 -123456789123456789/1000000007",
	} {
		matrices = append(matrices, table(t, s))
	}
	random := rand.New(rand.NewPCG(6, 1))
	for rows := 1; rows <= 5; rows++ {
		for columns := 1; columns <= 5; columns++ {
			matrices = append(matrices, drawn(random, rows, columns, 1+int64(columns)%3*4, rows%2 == 0))
		}
	}
	for rank := 1; rank <= 4; rank++ {
		left, right := drawn(random, 5, rank, 1, false), drawn(random, rank, 4+rank%2, 6, true)
		matrices = append(matrices, represent(product(meaning(left), meaning(right))))
	}
	return matrices
}

// squares are the samples that have as many columns as rows.
func squares(t *testing.T) [][][]api.Rat {
	t.Helper()
	return slices.DeleteFunc(samples(t), func(m [][]api.Rat) bool { return width(m) != len(m) })
}

// misshapen are lists of rows that are not matrices.
func misshapen(t *testing.T) [][][]api.Rat {
	t.Helper()
	zeros := func(rows, columns int) [][]api.Rat {
		m := make([][]api.Rat, rows)
		for i := range m {
			m[i] = make([]api.Rat, columns)
		}
		return m
	}
	one, two, three := list(t, "1"), list(t, "1 2"), list(t, "1 2 3")
	return [][][]api.Rat{
		{nil}, {{}}, {nil, nil}, {{}, {}}, {one, nil}, {nil, one}, {{}, one}, {one, one, {}}, {two, one}, {one, two}, {two, two, three}, {two, three, two}, {three, two, two}, {two, two, one}, {two, two, nil},
		zeros(api.MaxSide+1, 1), zeros(1, api.MaxSide+1), zeros(api.MaxSide+1, api.MaxSide), zeros(api.MaxSide, api.MaxSide+1), zeros(api.MaxSide+1, api.MaxSide+1), zeros(api.MaxSide+1, 0), zeros(3*api.MaxSide, 2),
	}
}

// broken are matrices some of whose numbers are not valid, with what they stand for.
func broken(t *testing.T) (matrices, meant [][][]api.Rat) {
	t.Helper()
	one, half, zero := number(t, "1"), number(t, "-1/2"), api.Rat{}
	for _, bad := range invalid() {
		for _, x := range []*api.Rat{&bad, &zero} {
			group := [][][]api.Rat{{{*x}}, {{*x, *x}, {*x, *x}}, {{one, *x}, {half, one}}, {{*x, one}, {half, *x}}, {{*x, half, one}}, {{one}, {*x}, {half}}, {{one, half, one}, {*x, one, *x}, {one, one, half}}}
			if x == &zero {
				meant = append(meant, group...)
			} else {
				matrices = append(matrices, group...)
			}
		}
	}
	return matrices, meant
}

// results calls every function that returns numbers; a list is listed as a matrix of one row, a number as one of one number.
func results(a, b [][]api.Rat, v []api.Rat) [][][]api.Rat {
	transposed, _ := matrix.Transpose(a)
	multiplied, _ := matrix.Mul(a, b)
	column, _ := matrix.Apply(a, v)
	reduced, _, _ := matrix.Reduce(a)
	det, _ := matrix.Det(a)
	inverse, _ := matrix.Inverse(a)
	solution, _ := matrix.Solve(a, v)
	null, _ := matrix.Null(a)
	return [][][]api.Rat{transposed, multiplied, {column}, reduced, {{det}}, inverse, {solution}, null}
}

// codes calls every function that returns an error.
func codes(a, b [][]api.Rat, v []api.Rat) []api.Errno {
	list := make([]api.Errno, 9)
	_, list[0] = matrix.Transpose(a)
	_, list[1] = matrix.Mul(a, b)
	_, list[2] = matrix.Apply(a, v)
	_, _, list[3] = matrix.Reduce(a)
	_, list[4] = matrix.Rank(a)
	_, list[5] = matrix.Det(a)
	_, list[6] = matrix.Inverse(a)
	_, list[7] = matrix.Solve(a, v)
	_, list[8] = matrix.Null(a)
	return list
}

// answers calls every function but Valid and writes the results as text.
func answers(a, b [][]api.Rat, v []api.Rat) []string {
	_, pivots, _ := matrix.Reduce(a)
	rank, _ := matrix.Rank(a)
	text := []string{strconv.Itoa(rank)}
	for _, c := range pivots {
		text = append(text, strconv.Itoa(c))
	}
	for _, e := range codes(a, b, v) {
		text = append(text, strconv.Itoa(int(e)))
	}
	for _, m := range results(a, b, v) {
		text = append(text, describe(m))
	}
	return text
}

// describe writes the representations, so that different ones of one value differ.
func describe(m [][]api.Rat) string {
	var text []string
	for _, row := range m {
		for _, x := range row {
			text = append(text, strconv.FormatBool(x.Num.Neg), describeLimbs(x.Num.Mag), "/", describeLimbs(x.Den))
		}
		text = append(text, ";")
	}
	return strings.Join(text, " ")
}

func describeLimbs(limbs []uint32) string {
	var text []string
	for _, limb := range limbs {
		text = append(text, strconv.FormatUint(uint64(limb), 10))
	}
	return strings.Join(text, " ")
}
