package design_test

import (
	"math/rand/v2"
	"slices"
	"strings"
	"testing"

	"robuststats/api"
	"robuststats/design"
	"robuststats/matrix"
)

// sameSpace reports whether the columns of two matrices with the same rows have the same sums of multiples.
func sameSpace(t *testing.T, a, b [][]api.Rat) bool {
	t.Helper()
	if len(a[0])+len(b[0]) == 0 {
		return true
	}
	if len(a[0]) == 0 || len(b[0]) == 0 {
		rank := rankOf(t, beside(a, b))
		return rank == 0
	}
	rank := rankOf(t, beside(a, b))
	return rank == rankOf(t, a) && rank == rankOf(t, b)
}

func beside(a, b [][]api.Rat) [][]api.Rat {
	m := make([][]api.Rat, len(a))
	for i := range m {
		m[i] = slices.Concat(a[i], b[i])
	}
	return m
}

func rankOf(t *testing.T, m [][]api.Rat) int {
	t.Helper()
	rank, e := matrix.Rank(m)
	if e != api.OK {
		t.Errorf("%s: error %d", showRows(m), e)
	}
	return rank
}

// The chapter's consequence, and P7: all codings lead to the same column space.
func TestCodingsHaveTheSameSpace(t *testing.T) {
	compared := 0
	for _, a := range drawn(5, 6000) {
		var all []api.Design
		for _, coding := range codings {
			if d, e := design.Build(a.table, a.model, coding); e == api.OK {
				all = append(all, d)
			}
		}
		for i := 1; i < len(all); i++ {
			if !slices.Equal(all[i].Names, all[0].Names) {
				compared++
			}
			if !sameSpace(t, all[0].X, all[i].X) {
				t.Errorf("%s\n%v: %s\n%s", describe(a.table), a.model, show(all[0]), show(all[i]))
			}
		}
	}
	if compared < 1000 {
		t.Errorf("only %d designs with different names", compared)
	}
}

// P7: models with the same set of terms lead to the same column space.
func TestOrderOfTermsDoesNotMatter(t *testing.T) {
	random := rand.New(rand.NewPCG(12, 6))
	compared := 0
	for _, a := range drawn(6, 4000) {
		other := api.Model{Response: a.model.Response, Intercept: a.model.Intercept}
		for _, term := range a.model.Terms {
			list := slices.Clone(term)
			random.Shuffle(len(list), func(i, j int) { list[i], list[j] = list[j], list[i] })
			other.Terms = append(other.Terms, list)
		}
		random.Shuffle(len(other.Terms), func(i, j int) { other.Terms[i], other.Terms[j] = other.Terms[j], other.Terms[i] })
		slices.SortStableFunc(other.Terms, func(s, t []api.Factor) int { return len(s) - len(t) })
		d, e := design.Build(a.table, a.model, a.coding)
		f, g := design.Build(a.table, other, a.coding)
		if e != g || e == api.OK && (len(d.Names) != len(f.Names) || !sameSpace(t, d.X, f.X)) {
			t.Errorf("%s\n%v: %s, error %d\n%v: %s, error %d", describe(a.table), a.model, show(d), e, other, show(f), g)
		}
		if !slices.Equal(d.Names, f.Names) {
			compared++
		}
	}
	if compared < 300 {
		t.Errorf("only %d designs with different names", compared)
	}
}

// The chapter's consequence: a design without intercept has indicators for the first category that stands alone.
func TestIndicatorsWithoutIntercept(t *testing.T) {
	checked := 0
	for _, a := range drawn(7, 4000) {
		a.model.Intercept = false
		d, e := design.Build(a.table, a.model, a.coding)
		at := slices.IndexFunc(a.model.Terms, func(term []api.Factor) bool { return len(term) == 1 && term[0].Name[0] == 'g' })
		if e != api.OK || at < 0 {
			continue
		}
		name := a.model.Terms[at][0].Name
		for _, level := range (reference{table: a.table}).column(name).Levels {
			checked++
			if !slices.Contains(d.Names, name+"="+level) {
				t.Errorf("%v: %q has no column for %q", a.model, d.Names, level)
			}
		}
	}
	if checked < 1000 {
		t.Errorf("only %d levels", checked)
	}
}

// The chapter's consequence: the used columns of a design are as many as its rank, also where columns depend on others.
func TestUsedColumnsOfDesigns(t *testing.T) {
	dependent := 0
	for _, a := range drawn(8, 4000) {
		d, e := design.Build(a.table, a.model, a.coding)
		if e != api.OK || len(d.Names) == 0 {
			continue
		}
		used, by, f := design.Alias(d.X)
		n := strings.Count(showUsed(used), "1")
		if n != rankOf(t, d.X) || len(used) != len(d.Names) || len(by) != len(d.Names) || f != api.OK {
			t.Errorf("%s: %v, error %d", show(d), used, f)
		}
		if n < len(used) {
			dependent++
		}
	}
	if dependent < 300 {
		t.Errorf("only %d designs with dependent columns", dependent)
	}
}
