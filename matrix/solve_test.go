package matrix_test

import (
	"math/big"
	"math/rand/v2"
	"slices"
	"testing"

	"robuststats/api"
	"robuststats/matrix"
)

// P6.4

func TestInverse(t *testing.T) {
	matrices, _ := broken(t)
	for _, m := range append(samples(t), matrices...) {
		got, e := matrix.Inverse(m)
		switch {
		case width(m) != len(m):
			if len(got) != 0 || e != api.ErrShape {
				t.Errorf("%s: %s %v", show(m), show(got), e)
			}
		case expanded(meaning(m)).Sign() == 0:
			if len(got) != 0 || e != api.ErrSingular {
				t.Errorf("%s: %s %v", show(m), show(got), e)
			}
		default:
			same(t, show(m)+", inverse", got, meaning(got))
			if e != api.OK || len(got) != len(m) || width(got) != len(m) {
				t.Fatalf("%s: %s %v", show(m), show(got), e)
			}
			same(t, show(m), represent(product(meaning(m), meaning(got))), unit(len(m)))
			same(t, show(m), represent(product(meaning(got), meaning(m))), unit(len(m)))
		}
	}
}

func TestInverseExamples(t *testing.T) {
	for m, want := range map[string]string{"": "", "5": "1/5", "-2/3": "-3/2", "0 1; 1 0": "0 1; 1 0", "1 2; 3 4": "-2 1; 3/2 -1/2", "1/2 0; 1/3 1": "2 0; -2/3 1", "1 1 1; 1 2 3; 1 3 6": "3 -3 1; -3 5 -2; 1 -2 1", "0 0 2; 0 3 0; 5 0 0": "0 0 1/5; 0 1/3 0; 1/2 0 0"} {
		if got, e := matrix.Inverse(table(t, m)); show(got) != want || e != api.OK {
			t.Errorf("%s: %s %v", m, show(got), e)
		}
	}
	for m, want := range map[string]api.Errno{"1 2": api.ErrShape, "0 0": api.ErrShape, "1; 2": api.ErrShape, "0": api.ErrSingular, "2 4; 1 2": api.ErrSingular, "0 1; 0 1": api.ErrSingular, "1 0; 1 0": api.ErrSingular, "0 0; 0 0": api.ErrSingular, "1 2 3; 4 5 6; 7 8 9": api.ErrSingular} {
		if got, e := matrix.Inverse(table(t, m)); len(got) != 0 || e != want {
			t.Errorf("%s: %s %v", m, show(got), e)
		}
	}
}

// Column j of the inverse of a band rises in equal steps up to row j and falls in equal ones from there on.
func TestInverseLarge(t *testing.T) {
	n := int64(api.MaxSide)
	want := unit(api.MaxSide)
	for i := range n {
		for j := range n {
			want[i][j] = big.NewRat((min(i, j)+1)*(n-max(i, j)), n+1)
		}
	}
	got, e := matrix.Inverse(represent(band(api.MaxSide)))
	same(t, "inverse of a band", got, want)
	if e != api.OK {
		t.Error(e)
	}
}

// P6.5

// consistent reports whether a x = b has a solution.
func consistent(a [][]api.Rat, b []api.Rat) bool {
	rows := meaning(a)
	for i, x := range b {
		rows[i] = append(rows[i], toBig(x))
	}
	_, pivots := gauss(rows)
	return !slices.Contains(pivots, width(a))
}

// checkSolve checks that x is the solution that the promise describes.
func checkSolve(t *testing.T, a [][]api.Rat, b []api.Rat) {
	t.Helper()
	x, e := matrix.Solve(a, b)
	if !consistent(a, b) {
		if len(x) != 0 || e != api.ErrInfeasible {
			t.Errorf("%s and %s: %s %v", show(a), showList(b), showList(x), e)
		}
		return
	}
	sameList(t, "solution", x, meaningOf(x))
	if e != api.OK || len(x) != width(a) {
		t.Fatalf("%s and %s: %s %v", show(a), showList(b), showList(x), e)
	}
	sameList(t, show(a)+" and "+showList(b), representList(applied(meaning(a), meaningOf(x))), meaningOf(b))
	_, pivots := gauss(meaning(a))
	for c, value := range x {
		if !slices.Contains(pivots, c) && !equal(value, api.Rat{}) {
			t.Errorf("%s and %s: %s", show(a), showList(b), showList(x))
		}
	}
}

func TestSolve(t *testing.T) {
	random := rand.New(rand.NewPCG(6, 3))
	matrices, _ := broken(t)
	for _, a := range append(samples(t), matrices...) {
		for range 4 {
			// A sum of multiples of the columns has a solution, other lists often have none.
			x := drawnList(random, width(a), 4)
			checkSolve(t, a, representList(applied(meaning(a), meaningOf(x))))
			checkSolve(t, a, drawnList(random, len(a), 3))
		}
		checkSolve(t, a, make([]api.Rat, len(a)))
		for i := range a {
			b := slices.Repeat(invalid()[i%7:i%7+1], len(a))
			checkSolve(t, a, b)
			b[i] = number(t, "-3/7")
			checkSolve(t, a, b)
		}
	}
}

func TestSolveExamples(t *testing.T) {
	for _, x := range []struct {
		a, b, want string
		e          api.Errno
	}{
		{"", "", "", api.OK}, {"1 2; 3 4", "5 6", "-4 9/2", api.OK}, {"1 2 0; 0 0 1", "3 4", "3 0 4", api.OK}, {"0 2; 0 4", "2 4", "0 1", api.OK}, {"1; 2", "1 2", "1", api.OK}, {"0 0", "0", "0 0", api.OK}, {"1 1; 1 1", "1/2 1/2", "1/2 0", api.OK}, {"0 1/3 1", "1/5", "0 3/5 0", api.OK}, {"0 1; 1 0; 1 1", "2 3 5", "3 2", api.OK},
		{"1; 2", "1 3", "", api.ErrInfeasible}, {"0 0", "1", "", api.ErrInfeasible}, {"0", "-1/2", "", api.ErrInfeasible}, {"1 1; 1 1", "1 2", "", api.ErrInfeasible}, {"1 0; 0 1; 1 1", "1 1 3", "", api.ErrInfeasible},
		{"1 2; 3 4", "5", "", api.ErrShape}, {"1 2; 3 4", "5 6 7", "", api.ErrShape}, {"", "1", "", api.ErrShape}, {"1", "", "", api.ErrShape}, {"0 0", "1 1", "", api.ErrShape}, {"1; 1", "1", "", api.ErrShape},
	} {
		if got, e := matrix.Solve(table(t, x.a), list(t, x.b)); showList(got) != x.want || e != x.e {
			t.Errorf("%s and %s: %s %v", x.a, x.b, showList(got), e)
		}
	}
}

func TestNull(t *testing.T) {
	matrices, _ := broken(t)
	for _, m := range append(samples(t), matrices...) {
		basis, e := matrix.Null(m)
		_, pivots := gauss(meaning(m))
		same(t, "basis", basis, meaning(basis))
		if len(basis) != width(m)-len(pivots) || e != api.OK {
			t.Fatalf("%s: %s %v", show(m), show(basis), e)
		}
		for c := range width(m) {
			if slices.Contains(pivots, c) {
				continue
			}
			checkElement(t, m, basis[0], pivots, c)
			basis = basis[1:]
		}
	}
}

// checkElement checks the element of a basis that belongs to a column without a pivot.
func checkElement(t *testing.T, m [][]api.Rat, element []api.Rat, pivots []int, own int) {
	t.Helper()
	if len(element) != width(m) {
		t.Fatalf("%s: %s", show(m), showList(element))
	}
	zeros := make([]*big.Rat, len(m))
	for i := range zeros {
		zeros[i] = new(big.Rat)
	}
	sameList(t, show(m)+" and "+showList(element), representList(applied(meaning(m), meaningOf(element))), zeros)
	for c, x := range element {
		want := int64(0)
		if c == own {
			want = 1
		}
		if !slices.Contains(pivots, c) && toBig(x).Cmp(big.NewRat(want, 1)) != 0 {
			t.Errorf("%s: %s for column %d", show(m), showList(element), own)
		}
	}
}

func TestNullExamples(t *testing.T) {
	for m, want := range map[string]string{"": "", "1 2 0": "-2 1 0; 0 0 1", "1 2; 3 4": "", "0": "1", "0 0": "1 0; 0 1", "1; 2": "", "1 2 3; 0 0 1": "-2 1 0", "1 0 -1/2": "0 1 0; 1/2 0 1", "0 1 1/3; 0 3 1; 0 0 0": "1 0 0; 0 -1/3 1"} {
		if got, e := matrix.Null(table(t, m)); show(got) != want || e != api.OK {
			t.Errorf("%s: %s %v", m, show(got), e)
		}
	}
}

// A consequence of the promises: every solution is that of Solve plus a sum of multiples of the elements of Null, which are what it has at the columns without pivots.
func TestAllSolutions(t *testing.T) {
	random := rand.New(rand.NewPCG(6, 4))
	for _, a := range samples(t) {
		x := drawnList(random, width(a), 4)
		b, _ := matrix.Apply(a, x)
		sum, _ := matrix.Solve(a, b)
		basis, e := matrix.Null(a)
		values := meaningOf(sum)
		_, pivots := gauss(meaning(a))
		for c := range width(a) {
			if slices.Contains(pivots, c) {
				continue
			}
			subtract(values, new(big.Rat).Neg(toBig(x[c])), meaningOf(basis[0]))
			basis = basis[1:]
		}
		sameList(t, "solution of "+show(a), x, values)
		if e != api.OK {
			t.Error(e)
		}
	}
}

// Systems as large as they may be are solved, too.
func TestSolveLarge(t *testing.T) {
	random := rand.New(rand.NewPCG(6, 5))
	for _, size := range [][2]int{{40, 40}, {api.MaxSide, 12}, {12, api.MaxSide}} {
		a := drawn(random, size[0], size[1], 3, false)
		x := drawnList(random, size[1], 9)
		b, _ := matrix.Apply(a, x)
		got, e := matrix.Solve(a, b)
		back, f := matrix.Apply(a, got)
		if !equalLists(back, b) || e != api.OK || f != api.OK {
			t.Fatalf("%v: %v %v", size, e, f)
		}
		basis, e := matrix.Null(a)
		if len(basis) != max(0, size[1]-size[0]) || e != api.OK {
			t.Fatalf("%v: %d %v", size, len(basis), e)
		}
		for _, element := range basis {
			if zeros, e := matrix.Apply(a, element); !equalLists(zeros, make([]api.Rat, size[0])) || e != api.OK {
				t.Errorf("%v: %s %v", size, showList(zeros), e)
			}
		}
	}
}
