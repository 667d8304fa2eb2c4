package design

import (
	"strings"

	"robuststats/api"
	"robuststats/rational"
)

// intercept is the name of the product of no columns.
const intercept = "(Intercept)"

// A column is a product of columns of factors: their names, and its number in each row of the design.
type column struct {
	names   []string
	numbers []api.Rat
}

func (c column) name() string {
	if len(c.names) == 0 {
		return intercept
	}
	return strings.Join(c.names, ":")
}

// ones returns the product of no columns.
func ones(rows int) column {
	c := column{numbers: make([]api.Rat, rows)}
	for i := range c.numbers {
		c.numbers[i] = rational.FromInt(1)
	}
	return c
}

// products returns the products of each column of two lists, where that of the first list changes faster.
func products(fast, slow []column) []column {
	var list []column
	for _, s := range slow {
		for _, f := range fast {
			list = append(list, product(f, s))
		}
	}
	return list
}

func product(a, b column) column {
	c := column{names: append(append([]string{}, a.names...), b.names...), numbers: make([]api.Rat, len(a.numbers))}
	for i := range c.numbers {
		c.numbers[i] = rational.Mul(a.numbers[i], b.numbers[i])
	}
	return c
}
