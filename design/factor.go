package design

import (
	"strconv"
	"strings"

	"robuststats/api"
	"robuststats/contrast"
	"robuststats/rational"
)

// A factor is a factor of a term with its column of the table, its coding if that is a Category, and the rows of the design.
type factor struct {
	name   string
	power  int
	column api.Column
	coding int
	rows   []int
}

// A rule is how the factors of one kind become columns of a design, and how many they become.
type rule struct {
	width   func(factor) int
	columns func(factor) []column
}

// rule returns that of the factor's kind.
func (f factor) rule() rule {
	if f.column.Kind == api.Number {
		return rule{width: factor.one, columns: factor.powers}
	}
	return rule{width: factor.codes, columns: factor.coded}
}

func (f factor) one() int {
	return 1
}

// powers returns the column of a Number.
func (f factor) powers() []column {
	// The name of the column is a copy, so that a design keeps no text of its table.
	c := column{names: []string{strings.Clone(f.name)}, numbers: make([]api.Rat, len(f.rows))}
	if f.power != 1 {
		c.names[0] += "^" + strconv.Itoa(f.power)
	}
	for i, row := range f.rows {
		c.numbers[i] = power(f.column.Cells[row].Value, f.power)
	}
	return []column{c}
}

// power returns x raised to n, with limbs of its own.
func power(x api.Rat, n int) api.Rat {
	y := rational.FromInt(1)
	for range n {
		y = rational.Mul(y, x)
	}
	return y
}

// codes returns the number of columns of a Category. It has a level, because a design has a row, in which its cell is not missing.
func (f factor) codes() int {
	numbers, _ := contrast.Matrix(f.coding, len(f.column.Levels))
	return len(numbers[0])
}

// coded returns the columns of a Category.
func (f factor) coded() []column {
	names, _ := contrast.Names(f.coding, f.column.Levels)
	numbers, _ := contrast.Matrix(f.coding, len(f.column.Levels))
	list := make([]column, len(names))
	for j, name := range names {
		list[j] = column{names: []string{f.name + name}, numbers: make([]api.Rat, len(f.rows))}
		for i, row := range f.rows {
			list[j].numbers[i] = numbers[f.column.Cells[row].Level][j]
		}
	}
	return list
}
