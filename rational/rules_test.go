package rational_test

import (
	"slices"
	"testing"

	"robuststats/api"
	"robuststats/rational"
)

const guard = 0xdeadbeef

// memory is all that lies behind the lists of a number, also beyond their ends.
type memory struct {
	num, den []uint32
}

func (m memory) copy() memory {
	return memory{slices.Clone(m.num), slices.Clone(m.den)}
}

func (m memory) equal(other memory) bool {
	return slices.Equal(m.num, other.num) && slices.Equal(m.den, other.den)
}

// guarded is a copy of x with more elements behind the ends of its lists.
func guarded(x api.Rat) (api.Rat, memory) {
	m := memory{append(slices.Clone(x.Num.Mag), guard, 0, guard, guard), append(slices.Clone(x.Den), guard, 0, guard, guard)}
	return api.Rat{Num: api.Int{Neg: x.Num.Neg, Mag: m.num[:len(x.Num.Mag)]}, Den: m.den[:len(x.Den)]}, m
}

// R2: neither the arguments nor what stands behind their ends are changed, and the latter is not read.
func TestArgumentsAreKept(t *testing.T) {
	for _, v := range all() {
		for _, w := range all() {
			x, wholeX := guarded(v)
			y, wholeY := guarded(w)
			beforeX, beforeY := wholeX.copy(), wholeY.copy()
			if got, want := answers(x, y), answers(clipped(v), clipped(w)); !slices.Equal(got, want) {
				t.Errorf("%v, %v: %v, not %v", v, w, got, want)
			}
			if rational.Valid(x) == isInvalid(v) {
				t.Errorf("%v: what stands behind its end is read", v)
			}
			if !wholeX.equal(beforeX) || !wholeY.equal(beforeY) {
				t.Fatalf("%v, %v: changed to %v, %v", v, w, wholeX, wholeY)
			}
		}
	}
}

// R2: overwriting a list of a result changes neither an argument nor another list of a result, nor a later call's.
func TestResultsAreNew(t *testing.T) {
	for _, v := range samples() {
		for _, w := range samples() {
			x, wholeX := guarded(v)
			y, wholeY := guarded(w)
			beforeX, beforeY := wholeX.copy(), wholeY.copy()
			got := results(x, y)
			var want []api.Rat
			for _, z := range got {
				want = append(want, clipped(z))
			}
			for i, z := range got {
				checkOverwritten(t, z, want[i])
			}
			if !wholeX.equal(beforeX) || !wholeY.equal(beforeY) {
				t.Fatalf("%v, %v: a result shares memory with an argument", v, w)
			}
			for i, z := range results(x, y) {
				if !equal(z, want[i]) {
					t.Fatalf("%v, %v: result %d is kept", v, w, i)
				}
			}
		}
	}
}

func checkOverwritten(t *testing.T, got, want api.Rat) {
	t.Helper()
	if !equal(got, want) {
		t.Fatalf("%v shares memory with an earlier result", want)
	}
	overwrite(got.Num.Mag)
	if !slices.Equal(got.Den, want.Den) {
		t.Fatalf("%v: both lists share memory", want)
	}
	overwrite(got.Den)
}

func overwrite(limbs []uint32) {
	limbs = limbs[:cap(limbs)]
	for i := range limbs {
		limbs[i] = guard
	}
}

// R2: one number given twice is not mixed up with itself, nor one whose two lists are the same memory.
func TestSameNumberTwice(t *testing.T) {
	for _, v := range all() {
		x, whole := guarded(v)
		before := whole.copy()
		if got, want := answers(x, x), answers(clipped(v), clipped(v)); !slices.Equal(got, want) {
			t.Errorf("%v: %v, not %v", v, got, want)
		}
		inverted := api.Rat{Num: api.Int{Mag: x.Den}, Den: x.Num.Mag}
		if got, want := answers(x, inverted), answers(clipped(v), clipped(inverted)); !slices.Equal(got, want) {
			t.Errorf("%v and its inverse: %v, not %v", v, got, want)
		}
		if !whole.equal(before) {
			t.Errorf("%v: changed to %v", v, whole)
		}
	}
}

// R3: nil and empty lists are equal.
func TestNilIsEmpty(t *testing.T) {
	empty := []uint32{}
	for _, x := range []api.Rat{{}, {Num: minus()}, {Num: plus(5)}, {Num: minus(0, 0, 1)}, {Den: []uint32{2}}, {Den: []uint32{1}}} {
		y := clipped(x)
		if len(y.Num.Mag) == 0 {
			x.Num.Mag, y.Num.Mag = nil, empty
		}
		if len(y.Den) == 0 {
			x.Den, y.Den = nil, empty
		}
		if rational.Valid(x) != rational.Valid(y) || rational.Valid(x) == isInvalid(x) || rational.Compare(x, y) != 0 {
			t.Errorf("%v: nil and empty differ", x)
		}
		for _, z := range all() {
			if !slices.Equal(answers(x, z), answers(y, z)) || !slices.Equal(answers(z, x), answers(z, y)) {
				t.Errorf("%v: nil and empty differ with %v", x, z)
			}
		}
	}
}
