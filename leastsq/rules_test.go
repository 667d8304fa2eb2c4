package leastsq_test

import (
	"fmt"
	"math"
	"math/rand/v2"
	"slices"
	"sync"
	"testing"

	"robuststats/api"
	"robuststats/leastsq"
	"robuststats/rational"
)

// drawnArguments are proper and have the form of moments.
func drawnArguments(random *rand.Rand) arguments {
	n, width := 1+random.IntN(6), 1+random.IntN(5)
	a := arguments{x: drawnRows(random, n, width), y: drawnList(random, n), b: drawnList(random, width), response: drawnNumber(random), add: random.IntN(2) == 0}
	size := random.IntN(5)
	a.row = drawnList(random, size)
	a.moments = api.Moments{N: 1 + random.IntN(3), XX: drawnRows(random, size, size), XY: drawnList(random, size), YY: drawnNumber(random)}
	if random.IntN(2) == 0 {
		a.moments, _ = leastsq.Gather(a.x, a.y)
		a.row = drawnList(random, width)
	}
	return a
}

// spoiled has lists of other lengths, and numbers that are not valid.
func spoiled(random *rand.Rand, a arguments) arguments {
	matrices := []*[][]api.Rat{&a.x, &a.moments.XX}
	lists := []*[]api.Rat{&a.y, &a.b, &a.row, &a.moments.XY}
	for _, m := range matrices {
		if len(*m) > 0 {
			lists = append(lists, &(*m)[random.IntN(len(*m))])
		}
	}
	m, l := matrices[random.IntN(2)], lists[random.IntN(len(lists))]
	switch random.IntN(9) {
	case 0:
		*m = append(*m, *l)
	case 1:
		*m = (*m)[len(*m)/2:]
	case 2:
		*m = slices.Repeat(*m, []int{0, 20, 70}[random.IntN(3)])
	case 3:
		*l = append(*l, drawnNumber(random))
	case 4:
		*l = (*l)[len(*l)/2:]
	case 5:
		*l = nil
	case 6:
		a.moments.N = []int{math.MinInt, -1, 0, 1 << 40, 1<<40 + 1, math.MaxInt}[random.IntN(6)]
	default:
		if len(*l) > 0 {
			(*l)[random.IntN(len(*l))] = invalid()[random.IntN(len(invalid()))]
		}
	}
	return a
}

// drawn are arguments some of which are spoiled.
func drawn(seed uint64, n int) []arguments {
	random := rand.New(rand.NewPCG(13, seed))
	list := make([]arguments, n)
	for i := range list {
		list[i] = drawnArguments(random)
		for range random.IntN(3) {
			list[i] = spoiled(random, list[i])
		}
	}
	return list
}

// isProper is the chapter's definition.
func isProper(x [][]api.Rat, y []api.Rat) bool {
	for _, row := range x {
		if len(row) != len(x[0]) || len(row) == 0 || len(row) > 12 {
			return false
		}
	}
	return len(x) >= 1 && len(x) <= 64 && len(x) == len(y)
}

// isForm is the chapter's description of moments.
func isForm(m api.Moments) bool {
	for _, row := range m.XX {
		if len(row) != len(m.XX) {
			return false
		}
	}
	return m.N >= 0 && m.N <= 1<<40 && len(m.XX) == len(m.XY) && len(m.XY) <= 12
}

// cleared has 0 for numbers that are not valid.
func cleared(numbers []api.Rat) []api.Rat { return represent(meaning(numbers)) }

func clearedRows(m [][]api.Rat) [][]api.Rat {
	var other [][]api.Rat
	for _, row := range m {
		other = append(other, cleared(row))
	}
	return other
}

// R1, R4, R5 and R7: any arguments are answered, with the error that comes first, or with what the valid numbers lead to.
func TestAnyArguments(t *testing.T) {
	seen := map[string]int{}
	for _, a := range drawn(41, 4000) {
		if !isProper(a.x, a.y) {
			hasNoShape(t, a.x, a.y)
			seen["improper"]++
		} else {
			fits(t, a.x, a.y, expectedFit(a.x, a.y))
			gathers(t, a.x, a.y, expectedMoments(a.x, a.y))
			if r, e := leastsq.Residuals(a.x, a.y, a.b); (e != api.OK) != (len(a.b) != len(a.x[0])) || (e == api.OK) != (len(r) > 0) {
				t.Errorf("%s, y %s, b %s: %s, error %d", showRows(a.x), show(a.y), show(a.b), show(r), e)
			}
			seen["proper"]++
		}
		if !isForm(a.moments) {
			isFormless(t, a.moments)
			seen["formless"]++
			continue
		}
		meant := api.Moments{N: a.moments.N, XX: clearedRows(a.moments.XX), XY: cleared(a.moments.XY), YY: a.moments.YY}
		want, e := leastsq.Shift(meant, cleared(a.row), a.response, a.add)
		if wrong := len(a.row) != len(a.moments.XY); wrong != (e == api.ErrShape) {
			t.Errorf("%s, row %s: error %d", showMoments(meant), show(a.row), e)
		}
		shifts(t, a.moments, a.row, a.response, a.add, showMoments(want), e)
		coef, rss, rank, e := leastsq.FromMoments(meant)
		solves(t, a.moments, solution{coef, rss, rank}.String(), e)
		seen[fmt.Sprint("error ", e)]++
	}
	for _, what := range []string{"improper", "proper", "formless", "error 0", "error 11"} {
		if seen[what] < 100 {
			t.Errorf("only %d of %s", seen[what], what)
		}
	}
}

// R2: no argument is changed, and what stands behind the end of a list is neither read nor changed.
func TestArgumentsAreKept(t *testing.T) {
	for i, a := range drawn(42, 1500) {
		want := a.results()
		var c copies
		b := c.arguments(a)
		before := fmt.Sprint(c)
		if got := b.results(); got != want {
			t.Errorf("case %d: %.600s, not %.600s", i, got, want)
		}
		if fmt.Sprint(c) != before || fmt.Sprint(b) != fmt.Sprint(a) {
			t.Errorf("case %d: arguments have changed", i)
		}
	}
}

// R2: no lists of results share memory with each other or with an argument.
func TestResultsAreNew(t *testing.T) {
	checked := 0
	for i, a := range drawn(43, 1500) {
		var given, ours blocks
		given.arguments(a)
		ours.results(a)
		ours.results(a)
		for _, text := range shared(given, ours) {
			t.Errorf("case %d: %s share memory", i, text)
		}
		checked += len(ours)
	}
	if checked < 50000 {
		t.Errorf("only %d pieces of memory", checked)
	}
}

// R2: rows, numbers and limbs of arguments may share memory.
func TestArgumentsMayShareMemory(t *testing.T) {
	row := list(t, "12345678901234567890/7 -2/3")
	x := [][]api.Rat{row, row}
	want := fits(t, rows(t, "12345678901234567890/7 -2/3; 12345678901234567890/7 -2/3"), list(t, "12345678901234567890/7 -2/3"), expectedFit(x, row))
	fits(t, x, row, showFit(want))
	a := arguments{x: x, y: row, b: row, row: row, response: row[0], moments: api.Moments{N: 1, XX: x, XY: row, YY: row[1]}, add: true}
	var given, ours blocks
	given.arguments(a)
	ours.results(a)
	if both := shared(given, ours); len(both) > 0 {
		t.Errorf("%v", both)
	}
	shifts(t, a.moments, nil, row[0], true, noMoments, api.ErrShape)
	solves(t, api.Moments{XX: [][]api.Rat{row[:1]}, XY: row[:1], YY: row[0]}, "coef 1, rss 0, rank 1", api.OK)
}

// R2 and R6: results that are overwritten do not change later ones.
func TestNoStateIsKept(t *testing.T) {
	for i, a := range drawn(44, 500) {
		want := a.results()
		f, _ := leastsq.Fit(a.x, a.y)
		m, _ := leastsq.Gather(a.x, a.y)
		s, _ := leastsq.Shift(a.moments, a.row, a.response, a.add)
		coef, _, _, _ := leastsq.FromMoments(a.moments)
		for _, row := range slices.Concat(m.XX, s.XX, [][]api.Rat{m.XY, s.XY, coef, f.Coef, f.Residuals, f.Leverage}) {
			for j := range row {
				clear(row[j].Num.Mag)
				clear(row[j].Den)
			}
		}
		clear(f.Used)
		if got := a.results(); got != want {
			t.Errorf("case %d: %s, and then %s", i, want, got)
		}
	}
}

// R3: nil and empty lists are equal.
func TestNilIsEmpty(t *testing.T) {
	zero := api.Rat{Num: api.Int{Mag: []uint32{}}, Den: []uint32{}}
	two := rational.FromInt(2)
	two.Den = []uint32{}
	fits(t, [][]api.Rat{{zero, two}, {two, zero}}, []api.Rat{zero, two}, "rank 2, used [true true], coef 1 0, residuals 0 0, rss 0, leverage 1 1")
	gathers(t, [][]api.Rat{{zero, two}, {two, zero}}, []api.Rat{zero, two}, "n 2, xx 4 0; 0 4, xy 4 0, yy 4")
	residualsAre(t, [][]api.Rat{{zero, two}}, []api.Rat{zero}, []api.Rat{two, zero}, "0")
	for _, x := range [][][]api.Rat{nil, {}, {nil}, {{}}} {
		for _, y := range [][]api.Rat{nil, {}, {two}} {
			hasNoShape(t, x, y)
		}
	}
	for _, xx := range [][][]api.Rat{nil, {}} {
		for _, xy := range [][]api.Rat{nil, {}} {
			m := api.Moments{XX: xx, XY: xy, YY: two}
			solves(t, m, "coef -, rss 2, rank 0", api.OK)
			for _, row := range [][]api.Rat{nil, {}} {
				shifts(t, m, row, two, true, "n 1, xx , xy -, yy 6", api.OK)
				shifts(t, m, row, two, false, noMoments, api.ErrRange)
			}
		}
	}
}

// R6: calls at the same time have the results of single calls.
func TestCallsAreIndependent(t *testing.T) {
	list := drawn(45, 300)
	var want []string
	for _, a := range list {
		want = append(want, a.results())
	}
	var all sync.WaitGroup
	for worker := range 4 {
		all.Go(func() {
			for i := range list {
				at := (i*7 + worker*11) % len(list)
				if got := list[at].results(); got != want[at] {
					t.Errorf("case %d: %s, not %s", at, got, want[at])
				}
			}
		})
	}
	all.Wait()
}
