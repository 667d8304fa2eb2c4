package formula

import (
	"slices"
	"strconv"

	"robuststats/api"
)

// A phrase is the text of an expression, with the rule that its outermost operation belongs to.
type phrase struct {
	text string
	rule int
}

// written returns the text of an expression. It reads the nodes from the last one on, so that the operands of a node are there before it, the first of them as the last phrase.
func written(nodes []api.Node) string {
	var phrases []phrase
	for _, n := range slices.Backward(nodes) {
		o := operations[n.Op]
		rest := len(phrases) - o.operands
		phrases = append(phrases[:rest], phrase{join(n, phrases[rest:]), o.rule})
	}
	return phrases[0].text
}

// join returns the text of a node with these operands, the first one last.
func join(n api.Node, operands []phrase) string {
	o := operations[n.Op]
	switch o.operands {
	case 0:
		return leaf(n)
	case 1:
		return enclosed(operands[0], o.rule) + o.sign + strconv.Itoa(n.Num)
	}
	// Signs of one rule group from the left, so that only a right operand needs brackets for its own rule.
	return enclosed(operands[1], o.rule) + spaced(o) + enclosed(operands[0], o.rule+1)
}

// leaf returns the text of a node without operands.
func leaf(n api.Node) string {
	switch n.Op {
	case api.FVar:
		return n.Name
	case api.FPower:
		return operations[n.Op].sign + "(" + n.Name + ", " + strconv.Itoa(n.Num) + ")"
	}
	return operations[n.Op].sign
}

// enclosed returns a phrase, in brackets if its rule is looser than this one.
func enclosed(p phrase, rule int) string {
	if p.rule < rule {
		return "(" + p.text + ")"
	}
	return p.text
}

// spaced returns the sign of an operation with two operands, and the spaces around it.
func spaced(o operation) string {
	if o.rule == cross {
		return o.sign
	}
	return " " + o.sign + " "
}
