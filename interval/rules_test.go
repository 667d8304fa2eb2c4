package interval_test

import (
	"slices"
	"testing"

	"robuststats/api"
	"robuststats/interval"
)

const guard = 0xdeadbeef

// memory is all that lies behind the lists of some numbers, also beyond their ends.
type memory [][]uint32

func (m memory) copy() memory {
	var list memory
	for _, limbs := range m {
		list = append(list, slices.Clone(limbs))
	}
	return list
}

func (m memory) equal(other memory) bool {
	return slices.EqualFunc(m, other, slices.Equal)
}

// guarded is a copy of a list with more elements behind its end.
func (m *memory) guarded(limbs []uint32) []uint32 {
	whole := append(slices.Clone(limbs), guard, 0, guard, guard)
	*m = append(*m, whole)
	return whole[:len(limbs)]
}

func (m *memory) number(x api.Rat) api.Rat {
	return api.Rat{Num: api.Int{Neg: x.Num.Neg, Mag: m.guarded(x.Num.Mag)}, Den: m.guarded(x.Den)}
}

func (m *memory) interval(a api.Interval) api.Interval {
	return api.Interval{Lo: m.number(a.Lo), Hi: m.number(a.Hi)}
}

// clipped is a copy of x with no memory behind the ends of its lists.
func clipped(x api.Rat) api.Rat {
	return api.Rat{Num: api.Int{Neg: x.Num.Neg, Mag: slices.Clip(slices.Clone(x.Num.Mag))}, Den: slices.Clip(slices.Clone(x.Den))}
}

func clippedInterval(a api.Interval) api.Interval {
	return api.Interval{Lo: clipped(a.Lo), Hi: clipped(a.Hi)}
}

// some are every third of all intervals, with equal and with exchanged ends among them.
func some(t *testing.T) []api.Interval {
	t.Helper()
	var list []api.Interval
	for i, a := range all(t) {
		if i%3 == 0 {
			list = append(list, a)
		}
	}
	return list
}

// R2: neither the arguments nor what stands behind their ends are changed, and the latter is not read.
func TestArgumentsAreKept(t *testing.T) {
	for _, c := range some(t) {
		for _, d := range some(t) {
			var m memory
			a, b, v := m.interval(c), m.interval(d), m.number(d.Hi)
			before := m.copy()
			if got, want := answers(a, b, v), answers(clippedInterval(c), clippedInterval(d), clipped(d.Hi)); !slices.Equal(got, want) {
				t.Errorf("%v, %v: %v, not %v", c, d, got, want)
			}
			if !m.equal(before) {
				t.Fatalf("%v, %v: changed to %v", c, d, m)
			}
		}
	}
}

// R2: overwriting a list of a result changes neither an argument nor another list of a result, nor a later call's.
func TestResultsAreNew(t *testing.T) {
	for _, c := range some(t) {
		for _, d := range some(t) {
			var m memory
			a, b, v := m.interval(c), m.interval(d), m.number(c.Hi)
			before := m.copy()
			checkNew(t, a, b, v)
			if !m.equal(before) {
				t.Fatalf("%v, %v: a result shares memory with an argument", c, d)
			}
		}
	}
}

func checkNew(t *testing.T, a, b api.Interval, v api.Rat) {
	t.Helper()
	got := results(a, b, v)
	var want []api.Rat
	for _, x := range got {
		want = append(want, clipped(x))
	}
	for i, x := range got {
		if !equal(x, want[i]) {
			t.Fatalf("%v, %v: result %d shares memory with an earlier one", a, b, i)
		}
		overwrite(x.Num.Mag)
		if !slices.Equal(x.Den, want[i].Den) {
			t.Fatalf("%v, %v: both lists of result %d share memory", a, b, i)
		}
		overwrite(x.Den)
	}
	for i, x := range results(a, b, v) {
		if !equal(x, want[i]) {
			t.Fatalf("%v, %v: result %d is kept", a, b, i)
		}
	}
}

func overwrite(limbs []uint32) {
	limbs = limbs[:cap(limbs)]
	for i := range limbs {
		limbs[i] = guard
	}
}

// R2: one interval given twice is not mixed up with itself, nor one whose ends are the same memory.
func TestSameIntervalTwice(t *testing.T) {
	for _, c := range all(t) {
		var m memory
		a := m.interval(c)
		before := m.copy()
		if got, want := answers(a, a, a.Lo), answers(clippedInterval(c), clippedInterval(c), clipped(c.Lo)); !slices.Equal(got, want) {
			t.Errorf("%v: %v, not %v", c, got, want)
		}
		point := api.Interval{Lo: a.Hi, Hi: a.Hi}
		checkNew(t, point, point, a.Hi)
		checkNew(t, point, a, a.Hi)
		if !m.equal(before) {
			t.Errorf("%v: changed to %v", c, m)
		}
	}
}

// R3: nil and empty lists are equal.
func TestNilIsEmpty(t *testing.T) {
	for _, a := range some(t) {
		for _, b := range []api.Interval{{}, pair(t, "-1", "0"), pair(t, "0", "3"), pair(t, "1", "2"), {Lo: api.Rat{Den: []uint32{2}}, Hi: api.Rat{Num: api.Int{Neg: true}}}} {
			got := answers(withEmpty(a), withEmpty(b), withEmpty(b).Hi)
			want := answers(withNil(a), withNil(b), withNil(b).Hi)
			if !slices.Equal(got, want) {
				t.Errorf("%v, %v: nil and empty differ", a, b)
			}
		}
	}
	if zero := withEmpty(api.Interval{}); !interval.Valid(zero) {
		t.Error("empty lists are not valid")
	}
}

// withEmpty has empty lists where a has nil ones, and withNil nil ones where a has empty ones.
func withEmpty(a api.Interval) api.Interval {
	return withLists(a, []uint32{})
}

func withNil(a api.Interval) api.Interval {
	return withLists(a, nil)
}

// withLists has the given list in the place of lists that are nil or empty.
func withLists(a api.Interval, empty []uint32) api.Interval {
	a = clippedInterval(a)
	for _, list := range []*[]uint32{&a.Lo.Num.Mag, &a.Lo.Den, &a.Hi.Num.Mag, &a.Hi.Den} {
		if len(*list) == 0 {
			*list = empty
		}
	}
	return a
}
