package polynomial

import (
	"robuststats/api"
	"robuststats/rational"
)

// Add returns the sum.
func Add(p, q []api.Rat) []api.Rat {
	return combined(p, q, rational.Add)
}

// Sub returns the difference.
func Sub(p, q []api.Rat) []api.Rat {
	return combined(p, q, rational.Sub)
}

// combined returns the polynomial with the results of an operation for the coefficients of each power.
func combined(p, q []api.Rat, operation func(x, y api.Rat) api.Rat) []api.Rat {
	list := make([]api.Rat, max(len(p), len(q)))
	for i := range list {
		list[i] = operation(coefficient(p, i), coefficient(q, i))
	}
	return list[:length(list)]
}

// coefficient returns that of a power, also of those that are 0 and not listed.
func coefficient(p []api.Rat, i int) api.Rat {
	if i < len(p) {
		return p[i]
	}
	return api.Rat{}
}

// Mul returns the product.
func Mul(p, q []api.Rat) []api.Rat {
	p, q = p[:length(p)], q[:length(q)]
	if len(p) == 0 || len(q) == 0 {
		return nil
	}
	product := make([]api.Rat, len(p)+len(q)-1)
	for i, x := range p {
		for j, y := range q {
			product[i+j] = rational.Add(product[i+j], rational.Mul(x, y))
		}
	}
	return product
}

// Div returns the quotient and the remainder.
func Div(p, d []api.Rat) (q, r []api.Rat, e api.Errno) {
	d = d[:length(d)]
	if len(d) == 0 {
		return nil, nil, api.ErrZero
	}
	r = Trim(p)
	q = make([]api.Rat, max(len(r)-len(d)+1, 0))
	for i := len(q) - 1; i >= 0; i-- {
		q[i], _ = rational.Div(r[i+len(d)-1], last(d))
		for j, c := range d {
			r[i+j] = rational.Sub(r[i+j], rational.Mul(q[i], c))
		}
	}
	return q, r[:length(r)], api.OK
}

// Derivative returns the derivative.
func Derivative(p []api.Rat) []api.Rat {
	p = p[:length(p)]
	if len(p) == 0 {
		return nil
	}
	derivative := make([]api.Rat, len(p)-1)
	for i := range derivative {
		derivative[i] = rational.Mul(p[i+1], rational.FromInt(i+1))
	}
	return derivative
}
