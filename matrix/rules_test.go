package matrix_test

import (
	"slices"
	"strings"
	"testing"

	"robuststats/api"
	"robuststats/matrix"
	"robuststats/rational"
)

const guard = 0xdeadbeef

// memory is all that lies behind the arguments, also beyond the ends of their lists.
type memory struct {
	limbs  [][]uint32
	lists  [][]api.Rat
	tables [][][]api.Rat
}

// text writes all of it.
func (m memory) text() string {
	var lines []string
	for _, limbs := range m.limbs {
		lines = append(lines, describeLimbs(limbs))
	}
	lines = append(lines, describe(m.lists))
	for _, rows := range m.tables {
		lines = append(lines, describe(rows))
	}
	return strings.Join(lines, "\n")
}

// guarded is a copy of a list with more elements behind its end.
func (m *memory) guarded(limbs []uint32) []uint32 {
	whole := append(slices.Clone(limbs), guard, 0, guard, guard)
	m.limbs = append(m.limbs, whole)
	return whole[:len(limbs)]
}

func (m *memory) number(x api.Rat) api.Rat {
	return api.Rat{Num: api.Int{Neg: x.Num.Neg, Mag: m.guarded(x.Num.Mag)}, Den: m.guarded(x.Den)}
}

func (m *memory) list(numbers []api.Rat) []api.Rat {
	var whole []api.Rat
	for _, x := range numbers {
		whole = append(whole, m.number(x))
	}
	for range 3 {
		whole = append(whole, m.number(rational.FromInt(guard)))
	}
	m.lists = append(m.lists, whole)
	return whole[:len(numbers)]
}

func (m *memory) table(rows [][]api.Rat) [][]api.Rat {
	var whole [][]api.Rat
	for _, row := range rows {
		whole = append(whole, m.list(row))
	}
	// Rows of the same length, which would make a larger matrix.
	for range 2 {
		whole = append(whole, m.list(slices.Repeat([]api.Rat{rational.FromInt(guard)}, width(rows))))
	}
	m.tables = append(m.tables, whole)
	return whole[:len(rows)]
}

// clipped is a copy of x with no memory behind the ends of its lists.
func clipped(x api.Rat) api.Rat {
	return api.Rat{Num: api.Int{Neg: x.Num.Neg, Mag: slices.Clip(slices.Clone(x.Num.Mag))}, Den: slices.Clip(slices.Clone(x.Den))}
}

func clippedList(numbers []api.Rat) []api.Rat {
	var list []api.Rat
	for _, x := range numbers {
		list = append(list, clipped(x))
	}
	return slices.Clip(list)
}

func clippedTable(rows [][]api.Rat) [][]api.Rat {
	var list [][]api.Rat
	for _, row := range rows {
		list = append(list, clippedList(row))
	}
	return slices.Clip(list)
}

// some are matrices of all kinds, with values that are not valid among their numbers, and lists that are not well-formed.
func some(t *testing.T) [][][]api.Rat {
	t.Helper()
	matrices, _ := broken(t)
	return slices.Concat(samples(t), matrices[:14], misshapen(t)[:13])
}

// partner returns a matrix and a list that fit a, in most cases: the matrix for Mul, the list for Apply if a has columns as rows, or else for one of Apply and Solve.
func partner(t *testing.T, a [][]api.Rat, i int) (b [][]api.Rat, v []api.Rat) {
	t.Helper()
	lists := [][]api.Rat{list(t, "1 -1/2 3 0 7/5"), list(t, "0 2 18446744073709551617/3 1 1"), append(invalid()[:4], number(t, "2"))}
	b = turned(table(t, "1 2 3 4 5; 1/2 0 -1 1/6 1"))
	if width(a) < len(b) {
		b = b[:width(a)]
	}
	v = lists[i%3]
	if n := []int{width(a), len(a)}[i%2]; n < len(v) {
		v = v[:n]
	}
	return b, v
}

// R2: neither the arguments nor what stands behind their ends are changed, and the latter is not read.
func TestArgumentsAreKept(t *testing.T) {
	for _, m := range some(t) {
		for i := range 6 {
			b, v := partner(t, m, i)
			var mem memory
			x, y, z := mem.table(m), mem.table(b), mem.list(v)
			before := mem.text()
			if got, want := answers(x, y, z), answers(clippedTable(m), clippedTable(b), clippedList(v)); !slices.Equal(got, want) {
				t.Errorf("%v, %v, %v: %v, not %v", m, b, v, got, want)
			}
			if matrix.Valid(x) != matrix.Valid(clippedTable(m)) {
				t.Errorf("%v: what is behind the end counts", m)
			}
			if mem.text() != before {
				t.Fatalf("%v, %v, %v: changed to %v", m, b, v, mem)
			}
		}
	}
}

// R2: overwriting a list of a result changes neither an argument nor another list of a result, nor a later call's.
func TestResultsAreNew(t *testing.T) {
	for _, m := range some(t) {
		for i := range 6 {
			b, v := partner(t, m, i)
			var mem memory
			x, y, z := mem.table(m), mem.table(b), mem.list(v)
			before := mem.text()
			checkNew(t, x, y, z)
			if mem.text() != before {
				t.Fatalf("%v, %v, %v: a result shares memory with an argument", m, b, v)
			}
		}
	}
}

func checkNew(t *testing.T, a, b [][]api.Rat, v []api.Rat) {
	t.Helper()
	got := results(a, b, v)
	var want [][][]api.Rat
	for _, m := range got {
		want = append(want, clippedTable(m))
	}
	for i, m := range got {
		for j, row := range m {
			for k, x := range row {
				if !equal(x, want[i][j][k]) {
					t.Fatalf("%v, %v: number %d of row %d of result %d shares memory with an earlier one", a, b, k, j, i)
				}
				overwrite(x.Num.Mag)
				if !slices.Equal(x.Den, want[i][j][k].Den) {
					t.Fatalf("%v, %v: both lists of number %d of row %d of result %d share memory", a, b, k, j, i)
				}
				overwrite(x.Den)
			}
			overwriteList(row)
		}
		overwriteRows(m)
	}
	for i, m := range results(a, b, v) {
		if !slices.EqualFunc(m, want[i], equalLists) {
			t.Fatalf("%v, %v: result %d is kept", a, b, i)
		}
	}
}

func overwrite(limbs []uint32) {
	limbs = limbs[:cap(limbs)]
	for i := range limbs {
		limbs[i] = guard
	}
}

func overwriteList(numbers []api.Rat) {
	numbers = numbers[:cap(numbers)]
	for i := range numbers {
		numbers[i] = rational.FromInt(guard)
	}
}

func overwriteRows(rows [][]api.Rat) {
	rows = rows[:cap(rows)]
	for i := range rows {
		rows[i] = nil
	}
}

// R2: the rows of a result are no parts of one list, and the pivots are not those of another call.
func TestRowsAreNew(t *testing.T) {
	for _, a := range some(t) {
		b, v := partner(t, a, 1)
		want := results(a, b, v)
		for i, m := range results(a, b, v) {
			for j, row := range m {
				if !equalLists(row, want[i][j]) {
					t.Errorf("%s: row %d of result %d has changed", show(a), j, i)
				}
				overwriteList(row)
			}
		}
		_, pivots, _ := matrix.Reduce(a)
		before := slices.Clone(pivots)
		for i := range pivots {
			pivots[i] = guard
		}
		if _, pivots, _ = matrix.Reduce(a); !slices.Equal(pivots, before) {
			t.Errorf("%s: %v", show(a), pivots)
		}
	}
}

// R2: one matrix given twice is not mixed up with itself, nor one whose rows or numbers are the same memory.
func TestSameMatrixTwice(t *testing.T) {
	for _, m := range some(t) {
		_, v := partner(t, m, 0)
		var mem memory
		a, c := mem.table(m), mem.number(number(t, "-5/3"))
		before := mem.text()
		if got, want := answers(a, a, v), answers(clippedTable(m), clippedTable(m), v); !slices.Equal(got, want) {
			t.Errorf("%v: %v, not %v", m, got, want)
		}
		checkNew(t, a, a, v)
		equals := []api.Rat{c, c, c}
		checkNew(t, [][]api.Rat{equals, equals, equals}, [][]api.Rat{equals, equals, equals}, equals)
		if mem.text() != before {
			t.Errorf("%v: changed to %v", m, mem)
		}
		if len(a) > 0 && matrix.Valid(a) {
			checkNew(t, a, [][]api.Rat{a[0], a[0]}, a[0])
		}
	}
}

// R3: nil and empty lists are equal.
func TestNilIsEmpty(t *testing.T) {
	for _, m := range some(t) {
		for i := range 6 {
			b, v := partner(t, m, i)
			got := answers(withLists(m, []uint32{}), withLists(b, []uint32{}), withLists([][]api.Rat{v}, []uint32{})[0])
			want := answers(withLists(m, nil), withLists(b, nil), withLists([][]api.Rat{v}, nil)[0])
			if !slices.Equal(got, want) {
				t.Errorf("%v, %v, %v: nil and empty differ", m, b, v)
			}
		}
	}
}

// withLists has the given list in the place of lists of limbs that are nil or empty, and nil or other empty lists and matrices as that is nil or not.
func withLists(m [][]api.Rat, empty []uint32) [][]api.Rat {
	rows := clippedTable(m)
	if empty != nil && rows == nil {
		rows = [][]api.Rat{}
	}
	for i := range rows {
		if empty != nil && rows[i] == nil {
			rows[i] = []api.Rat{}
		}
		for j := range rows[i] {
			replaceEmpty(&rows[i][j], empty)
		}
	}
	return rows
}

func replaceEmpty(x *api.Rat, empty []uint32) {
	for _, list := range []*[]uint32{&x.Num.Mag, &x.Den} {
		if len(*list) == 0 {
			*list = empty
		}
	}
}

// R7: numbers that are not valid count as 0.
func TestInvalidCountsAsZero(t *testing.T) {
	matrices, meant := broken(t)
	for i, m := range matrices {
		for k := range 6 {
			b, v := partner(t, m, k)
			if got, want := answers(m, b, v), answers(meant[i], b, v); !slices.Equal(got, want) {
				t.Errorf("%v: %v, not %v", m, got, want)
			}
		}
		for _, b := range samples(t) {
			if got, want := answers(turned(b), m, m[0]), answers(turned(b), meant[i], meant[i][0]); !slices.Equal(got, want) {
				t.Errorf("%v and %v: %v, not %v", b, m, got, want)
			}
		}
	}
}
