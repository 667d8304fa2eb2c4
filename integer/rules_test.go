package integer_test

import (
	"slices"
	"testing"

	"robuststats/api"
	"robuststats/integer"
)

const guard = 0xdeadbeef

// guarded is a copy of x with more elements behind the end of its limbs.
func guarded(x api.Int) (guardedX api.Int, whole []uint32) {
	whole = append(slices.Clone(x.Mag), guard, 0, guard, guard)
	return api.Int{Neg: x.Neg, Mag: whole[:len(x.Mag)]}, whole
}

// clipped is a copy of x with no memory behind the end of its limbs.
func clipped(x api.Int) api.Int {
	return api.Int{Neg: x.Neg, Mag: slices.Clip(slices.Clone(x.Mag))}
}

// R2: neither the arguments nor what stands behind their ends are changed, and the latter is not read.
func TestArgumentsAreKept(t *testing.T) {
	for _, v := range all() {
		for _, w := range all() {
			x, wholeX := guarded(v)
			y, wholeY := guarded(w)
			beforeX, beforeY := slices.Clone(wholeX), slices.Clone(wholeY)
			if got, want := answers(x, y), answers(clipped(v), clipped(w)); !slices.Equal(got, want) {
				t.Errorf("%v, %v: %v, not %v", v, w, got, want)
			}
			if integer.Valid(x) == isInvalid(v) {
				t.Errorf("%v: what stands behind its end is read", v)
			}
			if !slices.Equal(wholeX, beforeX) || !slices.Equal(wholeY, beforeY) {
				t.Fatalf("%v, %v: changed to %v, %v", v, w, wholeX, wholeY)
			}
		}
	}
}

// R2: overwriting a result changes neither an argument nor another result, nor a later call's.
func TestResultsAreNew(t *testing.T) {
	for _, v := range samples() {
		for _, w := range samples() {
			x, wholeX := guarded(v)
			y, wholeY := guarded(w)
			beforeX, beforeY := slices.Clone(wholeX), slices.Clone(wholeY)
			got := results(x, y)
			var want []api.Int
			for _, z := range got {
				want = append(want, clipped(z))
			}
			for i, z := range got {
				if !equal(z, want[i]) {
					t.Fatalf("%v, %v: result %d shares memory with an earlier one", v, w, i)
				}
				overwrite(z.Mag)
			}
			if !slices.Equal(wholeX, beforeX) || !slices.Equal(wholeY, beforeY) {
				t.Fatalf("%v, %v: a result shares memory with an argument", v, w)
			}
			for i, z := range results(x, y) {
				if !equal(z, want[i]) {
					t.Fatalf("%v, %v: result %d is kept", v, w, i)
				}
			}
		}
	}
}

func overwrite(limbs []uint32) {
	limbs = limbs[:cap(limbs)]
	for i := range limbs {
		limbs[i] = guard
	}
}

// R2: one number given twice is not mixed up with itself.
func TestSameNumberTwice(t *testing.T) {
	for _, v := range all() {
		x, whole := guarded(v)
		before := slices.Clone(whole)
		if got, want := answers(x, x), answers(clipped(v), clipped(v)); !slices.Equal(got, want) {
			t.Errorf("%v: %v, not %v", v, got, want)
		}
		if !slices.Equal(whole, before) {
			t.Errorf("%v: changed to %v", v, whole)
		}
	}
}

// R3: nil and an empty list are equal, also where Neg makes both of them invalid.
func TestNilIsEmpty(t *testing.T) {
	for _, neg := range []bool{false, true} {
		none, empty := api.Int{Neg: neg}, api.Int{Neg: neg, Mag: []uint32{}}
		for _, x := range all() {
			if !slices.Equal(answers(none, x), answers(empty, x)) || !slices.Equal(answers(x, none), answers(x, empty)) {
				t.Errorf("nil and empty differ with %v", x)
			}
		}
		if integer.Valid(none) == neg || integer.Valid(empty) == neg || integer.Compare(none, empty) != 0 {
			t.Errorf("nil and empty differ, with the sign %v", neg)
		}
	}
}
