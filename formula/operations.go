package formula

import (
	"robuststats/api"
	"robuststats/table"
)

// The rules of the grammar for expressions, from the loosest to the tightest. An open bracket has none of them but 0, so that it is looser than all.
const (
	sum = iota + 1
	product
	cross
	raised
	primary
)

// An operation is what the grammar says of a kind of nodes.
type operation struct {
	sign     string
	rule     int
	operands int
	named    bool
	least    int // of Num
	most     int
}

// operations are those of api; there is none with the number 0.
var operations = [...]operation{
	api.FVar:   {rule: primary, named: true},
	api.FPower: {sign: "power", rule: primary, named: true, least: 2, most: api.MaxPower},
	api.FOne:   {sign: "1", rule: primary},
	api.FZero:  {sign: "0", rule: primary},
	api.FPlus:  {sign: "+", rule: sum, operands: 2},
	api.FMinus: {sign: "-", rule: sum, operands: 2},
	api.FColon: {sign: ":", rule: cross, operands: 2},
	api.FStar:  {sign: "*", rule: product, operands: 2},
	api.FSlash: {sign: "/", rule: product, operands: 2},
	api.FHat:   {sign: "^", rule: raised, operands: 1, least: 1, most: api.MaxFactors},
}

// binaryOperation returns the operation with two operands that a sign stands for, or 0.
func binaryOperation(sign string) int {
	for op := range len(operations) {
		if operations[op].operands == 2 && operations[op].sign == sign {
			return op
		}
	}
	return 0
}

// isNode reports whether the fields of a node are those of its operation.
func isNode(n api.Node) bool {
	if n.Op < 1 || n.Op >= len(operations) {
		return false
	}
	o := operations[n.Op]
	if o.named && !table.Name(n.Name) || !o.named && n.Name != "" {
		return false
	}
	return n.Num >= o.least && n.Num <= o.most
}
