package terms

import (
	"slices"
	"strings"

	"robuststats/api"
)

// An expander reads the nodes of a right side from the first one on, so that it meets the factors in the order in which terms name them.
type expander struct {
	nodes    []api.Node   // those that have not been read
	factors  []api.Factor // those that have been read; a term has a bit for each of them
	exceeded bool         // a limit
}

// rightSide reads an expression as a right side, and returns its list and that of the model behind its last step. The list is that of an expression, too, and has the limits of one: it may be longer than that of the model, in which + 0 makes room.
func (x *expander) rightSide() (list, model []term) {
	op := x.nodes[0].Op
	if op != api.FPlus && op != api.FMinus {
		return x.step(api.FPlus, nil, []term{intercept})
	}
	x.next()
	list, model = x.rightSide()
	return x.step(op, list, model)
}

// step reads the operand of an addition or of a removal, and returns the list and the model behind it.
func (x *expander) step(op int, listBefore, modelBefore []term) (list, model []term) {
	defer x.judge(&list)
	defer x.judge(&model)
	isZero := x.nodes[0].Op == api.FZero
	operand := x.expression()
	list = combined(op, listBefore, operand)
	switch {
	case !isZero:
		model = combined(op, modelBefore, operand)
	case op == api.FPlus:
		model = without(modelBefore, []term{intercept})
	default:
		model = together(modelBefore, []term{intercept})
	}
	return list, model
}

// expression reads an expression and returns its list. The judgement is deferred so that none of the ways out leaves it out.
func (x *expander) expression() (list []term) {
	defer x.judge(&list)
	n := x.next()
	switch n.Op {
	case api.FVar:
		return x.single(api.Factor{Name: n.Name, Power: 1})
	case api.FPower:
		return x.single(api.Factor{Name: n.Name, Power: n.Num})
	case api.FOne:
		return []term{intercept}
	case api.FZero:
		return nil
	case api.FHat:
		return x.raised(x.expression(), n.Num)
	}
	first := x.expression()
	return combined(n.Op, first, x.expression())
}

func (x *expander) next() api.Node {
	n := x.nodes[0]
	x.nodes = x.nodes[1:]
	return n
}

// single returns the list of the term of a factor.
func (x *expander) single(f api.Factor) []term {
	at := slices.Index(x.factors, f)
	if at < 0 {
		at = len(x.factors)
		x.factors = append(x.factors, f)
	}
	return []term{1 << at}
}

// raised returns the list of a power. Each product contains those before it, so that a limit that one of them exceeds is one that the power exceeds.
func (x *expander) raised(base []term, exponent int) []term {
	list := base
	for range exponent - 1 {
		list = combined(api.FStar, list, base)
		x.judge(&list)
	}
	return list
}

// judge notes a list that exceeds a limit, and empties it, since the lists that are made of it would be longer and longer.
func (x *expander) judge(list *[]term) {
	if len(*list) > api.MaxTerms || slices.ContainsFunc(*list, func(t term) bool { return t.size() > api.MaxFactors }) {
		x.exceeded, *list = true, nil
	}
}

// model returns the model with the terms of a list.
func (x *expander) model(response string, list []term) api.Model {
	m := api.Model{Response: strings.Clone(response), Intercept: slices.Contains(list, intercept)}
	others := without(list, []term{intercept})
	slices.SortStableFunc(others, func(s, t term) int { return s.size() - t.size() })
	for _, t := range others {
		m.Terms = append(m.Terms, x.factorsOf(t))
	}
	return m
}

// factorsOf returns the factors of a term. Each has a name of its own because the names in the list are the memory of the argument.
func (x *expander) factorsOf(t term) []api.Factor {
	var list []api.Factor
	for i, f := range x.factors {
		if t.has(i) {
			list = append(list, api.Factor{Name: strings.Clone(f.Name), Power: f.Power})
		}
	}
	return list
}
