package natural_test

import (
	"slices"
	"testing"

	"robuststats/natural"
)

const guard = 0xdeadbeef

// guarded is a copy of a with more elements behind its end.
func guarded(a []uint32) (list, whole []uint32) {
	whole = append(slices.Clone(a), guard, 0, guard, guard)
	return whole[:len(a)], whole
}

// R2: neither the arguments nor what stands behind their ends are changed, and the latter is not read.
func TestArgumentsAreKept(t *testing.T) {
	list := append(samples(), invalid()...)
	for _, x := range list {
		for _, y := range list {
			a, wholeA := guarded(x)
			b, wholeB := guarded(y)
			beforeA, beforeB := slices.Clone(wholeA), slices.Clone(wholeB)
			if got, want := answers(a, b), answers(slices.Clip(slices.Clone(x)), slices.Clip(slices.Clone(y))); !slices.Equal(got, want) {
				t.Errorf("%v, %v: %v, not %v", x, y, got, want)
			}
			natural.Valid(a)
			if !slices.Equal(wholeA, beforeA) || !slices.Equal(wholeB, beforeB) {
				t.Fatalf("%v, %v: changed to %v, %v", x, y, wholeA, wholeB)
			}
		}
	}
}

// R2: overwriting a result changes neither an argument nor another result, nor a later call's.
func TestResultsAreNew(t *testing.T) {
	for _, x := range samples() {
		for _, y := range samples() {
			a, wholeA := guarded(x)
			b, wholeB := guarded(y)
			beforeA, beforeB := slices.Clone(wholeA), slices.Clone(wholeB)
			results := lists(a, b)
			var want [][]uint32
			for _, r := range results {
				want = append(want, slices.Clone(r))
			}
			for i, r := range results {
				if !slices.Equal(r, want[i]) {
					t.Fatalf("%v, %v: result %d shares memory with an earlier one", x, y, i)
				}
				overwrite(r)
			}
			if !slices.Equal(wholeA, beforeA) || !slices.Equal(wholeB, beforeB) {
				t.Fatalf("%v, %v: a result shares memory with an argument", x, y)
			}
			for i, r := range lists(a, b) {
				if !slices.Equal(r, want[i]) {
					t.Fatalf("%v, %v: result %d is kept", x, y, i)
				}
			}
		}
	}
}

func overwrite(r []uint32) {
	r = r[:cap(r)]
	for i := range r {
		r[i] = guard
	}
}

// R2: one list given twice is not mixed up with itself.
func TestSameListTwice(t *testing.T) {
	for _, x := range append(samples(), invalid()...) {
		a, whole := guarded(x)
		before := slices.Clone(whole)
		if got, want := answers(a, a), answers(x, slices.Clone(x)); !slices.Equal(got, want) {
			t.Errorf("%v: %v, not %v", x, got, want)
		}
		if !slices.Equal(whole, before) {
			t.Errorf("%v: changed to %v", x, whole)
		}
	}
}

// R3: nil and an empty list are equal.
func TestNilIsEmpty(t *testing.T) {
	empty := []uint32{}
	for _, a := range samples() {
		if !slices.Equal(answers(nil, a), answers(empty, a)) || !slices.Equal(answers(a, nil), answers(a, empty)) {
			t.Errorf("nil and empty differ with %v", a)
		}
	}
	if natural.Valid(nil) != natural.Valid(empty) || natural.Compare(nil, empty) != 0 {
		t.Error("nil and empty differ")
	}
}
