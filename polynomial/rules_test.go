package polynomial_test

import (
	"slices"
	"strings"
	"testing"

	"robuststats/api"
	"robuststats/polynomial"
	"robuststats/rational"
)

const guard = 0xdeadbeef

// memory is all that lies behind the arguments, also beyond the ends of their lists.
type memory struct {
	limbs [][]uint32
	lists [][]api.Rat
}

// text writes all of it.
func (m memory) text() string {
	var lines []string
	for _, limbs := range m.limbs {
		lines = append(lines, describe(api.Rat{Num: api.Int{Mag: limbs}}))
	}
	for _, list := range m.lists {
		for _, x := range list {
			lines = append(lines, describe(x))
		}
	}
	return strings.Join(lines, "\n")
}

// guarded is a copy of a list with more elements behind its end.
func (m *memory) guarded(limbs []uint32) []uint32 {
	whole := append(slices.Clone(limbs), guard, 0, guard, guard)
	m.limbs = append(m.limbs, whole)
	return whole[:len(limbs)]
}

func (m *memory) number(x api.Rat) api.Rat {
	return api.Rat{Num: api.Int{Neg: x.Num.Neg, Mag: m.guarded(x.Num.Mag)}, Den: m.guarded(x.Den)}
}

func (m *memory) interval(a api.Interval) api.Interval {
	return api.Interval{Lo: m.number(a.Lo), Hi: m.number(a.Hi)}
}

func (m *memory) poly(p []api.Rat) []api.Rat {
	var whole []api.Rat
	for _, x := range p {
		whole = append(whole, m.number(x))
	}
	for range 3 {
		whole = append(whole, m.number(rational.FromInt(guard)))
	}
	m.lists = append(m.lists, whole)
	return whole[:len(p)]
}

// clipped is a copy of x with no memory behind the ends of its lists.
func clipped(x api.Rat) api.Rat {
	return api.Rat{Num: api.Int{Neg: x.Num.Neg, Mag: slices.Clip(slices.Clone(x.Num.Mag))}, Den: slices.Clip(slices.Clone(x.Den))}
}

func clippedPoly(p []api.Rat) []api.Rat {
	var list []api.Rat
	for _, x := range p {
		list = append(list, clipped(x))
	}
	return slices.Clip(list)
}

// some are polynomials of all kinds, with values that are not valid among their coefficients.
func some(t *testing.T) [][]api.Rat {
	t.Helper()
	lists, _ := broken(t)
	return append(append(samples(t), lists[:14]...), integers(t, "-2/3", 5).p, constant(t, "1").times(t, "1", "2", 2).times(t, "1/3", "0", 3).p)
}

// few are intervals with and without roots of these polynomials.
func few(t *testing.T) []api.Interval {
	t.Helper()
	return []api.Interval{pair(t, "-10", "10"), pair(t, "0", "1"), pair(t, "1/3", "5/2"), pair(t, "1", "1"), pair(t, "2", "1"), {Lo: invalid()[1], Hi: number(t, "3")}}
}

// R2: neither the arguments nor what stands behind their ends are changed, and the latter is not read.
func TestArgumentsAreKept(t *testing.T) {
	for i, p := range some(t) {
		for _, q := range some(t)[i%3:] {
			x := few(t)[i%len(few(t))]
			var m memory
			f, g, a := m.poly(p), m.poly(q), m.interval(x)
			before := m.text()
			if got, want := answers(f, g, a), answers(clippedPoly(p), clippedPoly(q), x); !slices.Equal(got, want) {
				t.Errorf("%v, %v, %v: %v, not %v", p, q, x, got, want)
			}
			if m.text() != before {
				t.Fatalf("%v, %v, %v: changed to %v", p, q, x, m)
			}
		}
	}
}

// R2: overwriting a list of a result changes neither an argument nor another list of a result, nor a later call's.
func TestResultsAreNew(t *testing.T) {
	for i, p := range some(t) {
		for j, q := range some(t) {
			var m memory
			f, g, a := m.poly(p), m.poly(q), m.interval(few(t)[(i+j)%len(few(t))])
			before := m.text()
			checkNew(t, f, g, a)
			if m.text() != before {
				t.Fatalf("%v, %v: a result shares memory with an argument", p, q)
			}
		}
	}
}

func checkNew(t *testing.T, p, q []api.Rat, x api.Interval) {
	t.Helper()
	got := lists(p, q, x)
	var want [][]api.Rat
	for _, list := range got {
		want = append(want, clippedPoly(list))
	}
	for i, list := range got {
		if !slices.EqualFunc(list, want[i], equal) {
			t.Fatalf("%v, %v: result %d shares memory with an earlier one", p, q, i)
		}
		for j, c := range list {
			if !equal(c, want[i][j]) {
				t.Fatalf("%v, %v: number %d of result %d shares memory with an earlier one", p, q, j, i)
			}
			overwrite(c.Num.Mag)
			if !slices.Equal(c.Den, want[i][j].Den) {
				t.Fatalf("%v, %v: both lists of number %d of result %d share memory", p, q, j, i)
			}
			overwrite(c.Den)
		}
		overwriteList(list)
	}
	for i, list := range lists(p, q, x) {
		if !slices.EqualFunc(list, want[i], equal) {
			t.Fatalf("%v, %v: result %d is kept", p, q, i)
		}
	}
}

func overwrite(limbs []uint32) {
	limbs = limbs[:cap(limbs)]
	for i := range limbs {
		limbs[i] = guard
	}
}

func overwriteList(list []api.Rat) {
	list = list[:cap(list)]
	for i := range list {
		list[i] = rational.FromInt(guard)
	}
}

// R2: the lists of a chain are no parts of one list.
func TestChainIsNew(t *testing.T) {
	for _, p := range some(t) {
		chain := polynomial.Chain(p)
		for i, f := range chain {
			if want := polynomial.Chain(p)[i]; !slices.EqualFunc(f, want, equal) {
				t.Errorf("%s: element %d has changed", show(p), i)
			}
			overwriteList(f)
		}
	}
}

// R2: one polynomial given twice is not mixed up with itself, nor one whose coefficients are the same memory.
func TestSamePolynomialTwice(t *testing.T) {
	for _, p := range some(t) {
		var m memory
		f, x := m.poly(p), few(t)[0]
		c := m.number(number(t, "-5/3"))
		before := m.text()
		if got, want := answers(f, f, x), answers(clippedPoly(p), clippedPoly(p), x); !slices.Equal(got, want) {
			t.Errorf("%v: %v, not %v", p, got, want)
		}
		equals := []api.Rat{c, c, c, c}
		checkNew(t, f, f, x)
		checkNew(t, equals, equals[:2], api.Interval{Lo: c, Hi: c})
		if m.text() != before {
			t.Errorf("%v: changed to %v", p, m)
		}
	}
}

// R3: nil and empty lists are equal.
func TestNilIsEmpty(t *testing.T) {
	for _, p := range some(t) {
		for _, q := range some(t)[:12] {
			for _, x := range few(t) {
				got := answers(withLists(p, []uint32{}), withLists(q, []uint32{}), intervalWithLists(x, []uint32{}))
				want := answers(withLists(p, nil), withLists(q, nil), intervalWithLists(x, nil))
				if !slices.Equal(got, want) {
					t.Errorf("%v, %v, %v: nil and empty differ", p, q, x)
				}
			}
		}
	}
}

// withLists has the given list in the place of lists of limbs that are nil or empty, and an empty list of coefficients instead of nil if the given one is not nil.
func withLists(p []api.Rat, empty []uint32) []api.Rat {
	list := clippedPoly(p)
	if empty != nil && list == nil {
		list = []api.Rat{}
	}
	for i := range list {
		replaceEmpty(&list[i], empty)
	}
	return list
}

func intervalWithLists(a api.Interval, empty []uint32) api.Interval {
	a = api.Interval{Lo: clipped(a.Lo), Hi: clipped(a.Hi)}
	replaceEmpty(&a.Lo, empty)
	replaceEmpty(&a.Hi, empty)
	return a
}

func replaceEmpty(x *api.Rat, empty []uint32) {
	for _, list := range []*[]uint32{&x.Num.Mag, &x.Den} {
		if len(*list) == 0 {
			*list = empty
		}
	}
}

// R7: coefficients that are not valid count as 0, and zeros at the end are ignored.
func TestInvalidCountsAsZero(t *testing.T) {
	lists, meant := broken(t)
	for i, p := range lists {
		for j, q := range samples(t) {
			x := few(t)[(i+j)%3]
			if got, want := answers(p, q, x), answers(meant[i], q, x); !slices.Equal(got, want) {
				t.Errorf("%v, %v: %v, not %v", p, q, got, want)
			}
			if got, want := answers(q, p, x), answers(q, meant[i], x); !slices.Equal(got, want) {
				t.Errorf("%v, %v: %v, not %v", q, p, got, want)
			}
		}
	}
}
