package contrast

import (
	"strconv"

	"robuststats/api"
)

// A rule is what makes a coding differ from the others.
type rule struct {
	omitted int // how many columns it has less than levels
	number  func(row, column, levels int) int
	name    func(column int, levels []string) string
}

// ruleFor returns the rule of a coding, or false if there is none for so many levels.
func ruleFor(coding, levels int) (r rule, ok bool) {
	if levels < 1 || levels > api.MaxLevels {
		return rule{}, false
	}
	rules := map[int]rule{
		api.Indicator: {omitted: 0, number: indicator, name: ownLevel},
		api.Treatment: {omitted: 1, number: treatment, name: nextLevel},
		api.SumToZero: {omitted: 1, number: sumToZero, name: place},
		api.Helmert:   {omitted: 1, number: helmert, name: place},
	}
	r, ok = rules[coding]
	return r, ok
}

func indicator(row, column, _ int) int {
	if row == column {
		return 1
	}
	return 0
}

// treatment leaves out the column of the first level, with which the others are compared.
func treatment(row, column, levels int) int {
	return indicator(row, column+1, levels)
}

func sumToZero(row, column, levels int) int {
	if row == levels-1 {
		return -1
	}
	return indicator(row, column, levels)
}

// helmert compares a level with all those before it.
func helmert(row, column, _ int) int {
	switch {
	case row <= column:
		return -1
	case row == column+1:
		return row
	}
	return 0
}

func ownLevel(column int, levels []string) string {
	return "=" + levels[column]
}

func nextLevel(column int, levels []string) string {
	return ownLevel(column+1, levels)
}

// place names a column that stands for no single level.
func place(column int, _ []string) string {
	return "." + strconv.Itoa(column+1)
}
