package design

import (
	"slices"

	"robuststats/api"
)

// A plan is what a design is made from. All names of the model are those of columns.
type plan struct {
	model   api.Model
	coding  int
	rows    []int
	columns map[string]api.Column
}

// judge returns the error of a plan that has no design.
func (p plan) judge() api.Errno {
	switch {
	case !p.hasTypes():
		return api.ErrType
	case len(p.rows) == 0:
		return api.ErrMissing
	case len(p.rows) > api.MaxRows || p.isTooWide():
		return api.ErrLimit
	}
	return api.OK
}

// hasTypes reports whether the columns have the kinds that the model needs.
func (p plan) hasTypes() bool {
	if p.columns[p.model.Response].Kind != api.Number {
		return false
	}
	for _, term := range p.model.Terms {
		for _, f := range term {
			if f.Power != 1 && p.columns[f.Name].Kind != api.Number {
				return false
			}
		}
	}
	return true
}

// isTooWide counts the columns before any of them is built, and stops at the first term beyond the limit, because six categories alone may have 2^30 products, and a sum of more would not fit into every int.
func (p plan) isTooWide() bool {
	width := 0
	for _, term := range p.terms() {
		product := 1
		for _, f := range p.factors(term) {
			product *= f.rule().width(f)
		}
		if width += product; width > api.MaxCols {
			return true
		}
	}
	return false
}

// terms returns the terms of the model, of which the intercept is the empty one.
func (p plan) terms() [][]api.Factor {
	if p.model.Intercept {
		return append([][]api.Factor{nil}, p.model.Terms...)
	}
	return p.model.Terms
}

// factors returns the factors of a term with all that their columns depend on.
func (p plan) factors(term []api.Factor) []factor {
	list := make([]factor, len(term))
	for i, f := range term {
		list[i] = factor{name: f.Name, power: f.Power, column: p.columns[f.Name], coding: api.Indicator, rows: p.rows}
		if p.has(slices.Delete(slices.Clone(term), i, i+1)) {
			list[i].coding = p.coding
		}
	}
	return list
}

// has reports whether a term is in the model.
func (p plan) has(term []api.Factor) bool {
	return slices.ContainsFunc(p.terms(), func(other []api.Factor) bool { return sameFactors(term, other) })
}

// sameFactors reports whether two terms have the same factors, in whatever order. None of them contains a factor twice, so that it is enough to look for those of the first one.
func sameFactors(s, t []api.Factor) bool {
	return len(s) == len(t) && !slices.ContainsFunc(s, func(f api.Factor) bool { return !slices.Contains(t, f) })
}

// design builds the design of a plan without errors.
func (p plan) design() api.Design {
	d := api.Design{X: make([][]api.Rat, len(p.rows)), Rows: p.rows}
	for _, c := range p.productsOfTerms() {
		d.Names = append(d.Names, c.name())
		for i, number := range c.numbers {
			d.X[i] = append(d.X[i], number)
		}
	}
	response := factor{power: 1, column: p.columns[p.model.Response], rows: p.rows}
	d.Y = response.powers()[0].numbers
	return d
}

// productsOfTerms returns the columns of all terms.
func (p plan) productsOfTerms() []column {
	var all []column
	for _, term := range p.terms() {
		list := []column{ones(len(p.rows))}
		for _, f := range p.factors(term) {
			list = products(list, f.rule().columns(f))
		}
		all = append(all, list...)
	}
	return all
}
