package formula

import (
	"slices"
	"strings"

	"robuststats/api"
	"robuststats/table"
)

const (
	letters = "abcdefghijklmnopqrstuvwxyzABCDEFGHIJKLMNOPQRSTUVWXYZ"
	digits  = "0123456789"
)

// bracket stands for an open bracket among the operations that wait.
const bracket = 0

// A reader keeps the operations that wait for their second operand, and the open brackets, in a list instead of calling itself, since brackets may be nested as deep as the text is long.
type reader struct {
	text     string
	word     string // the next word or sign, which is the wrong one after an error; empty at the end of the text
	at       int    // its place
	response string
	nodes    []api.Node // those of the right side, in postfix order
	waiting  []int
}

func (r *reader) formula() api.Errno {
	r.next()
	var ok bool
	if r.response, ok = r.name(); !ok || !r.skip("~") {
		return api.ErrSyntax
	}
	for {
		if e := r.operand(); e != api.OK {
			return e
		}
		if !r.binary() {
			return r.end()
		}
	}
}

// operand reads everything up to the next sign with two operands.
func (r *reader) operand() api.Errno {
	for r.skip("(") {
		r.waiting = append(r.waiting, bracket)
	}
	if e := r.primary(); e != api.OK {
		return e
	}
	for {
		switch {
		case r.skip("^"):
			if e := r.exponent(api.Node{Op: api.FHat}); e != api.OK {
				return e
			}
		case r.word == ")":
			if !r.closeBracket() {
				return api.ErrSyntax
			}
		default:
			return api.OK
		}
	}
}

func (r *reader) primary() api.Errno {
	switch {
	case r.skip("0"):
		r.add(api.Node{Op: api.FZero})
	case r.skip("1"):
		r.add(api.Node{Op: api.FOne})
	case r.skip("power"):
		return r.power()
	default:
		name, ok := r.name()
		if !ok {
			return api.ErrSyntax
		}
		r.add(api.Node{Op: api.FVar, Name: name})
	}
	return api.OK
}

// power reads what stands behind the word power.
func (r *reader) power() api.Errno {
	if !r.skip("(") {
		return api.ErrSyntax
	}
	name, ok := r.name()
	if !ok || !r.skip(",") {
		return api.ErrSyntax
	}
	if e := r.exponent(api.Node{Op: api.FPower, Name: name}); e != api.OK {
		return e
	}
	if !r.skip(")") {
		return api.ErrSyntax
	}
	return api.OK
}

// exponent reads the exponent of a node and adds the node.
func (r *reader) exponent(n api.Node) api.Errno {
	if len(r.word) != 1 || !strings.Contains(digits, r.word) {
		return api.ErrSyntax
	}
	n.Num = int(r.word[0] - '0')
	if !isNode(n) {
		return api.ErrRange
	}
	r.next()
	r.add(n)
	return api.OK
}

// binary reads a sign with two operands, and reports whether there is one.
func (r *reader) binary() bool {
	op := binaryOperation(r.word)
	if op == 0 {
		return false
	}
	r.finish(operations[op].rule)
	r.waiting = append(r.waiting, op)
	r.next()
	return true
}

// closeBracket reads a closing bracket, and reports whether there is an open one.
func (r *reader) closeBracket() bool {
	r.finish(sum)
	if len(r.waiting) == 0 {
		return false
	}
	r.waiting = r.waiting[:len(r.waiting)-1]
	r.next()
	return true
}

func (r *reader) end() api.Errno {
	r.finish(sum)
	if r.word != "" || len(r.waiting) > 0 {
		return api.ErrSyntax
	}
	return api.OK
}

// finish adds the operations behind the last open bracket that have been waiting for what ends ahead of a sign of this rule. Those of the same rule are among them because they group from the left.
func (r *reader) finish(rule int) {
	for n := len(r.waiting) - 1; n >= 0 && operations[r.waiting[n]].rule >= rule; n-- {
		r.add(api.Node{Op: r.waiting[n]})
		r.waiting = r.waiting[:n]
	}
}

func (r *reader) add(n api.Node) {
	r.nodes = append(r.nodes, n)
}

// name reads a name. It is a clone because a part of the text would be the argument's memory.
func (r *reader) name() (string, bool) {
	if !table.Name(r.word) {
		return "", false
	}
	name := strings.Clone(r.word)
	r.next()
	return name, true
}

// skip goes on if the next word or sign is this one, and reports whether it is.
func (r *reader) skip(word string) bool {
	if r.word != word {
		return false
	}
	r.next()
	return true
}

func (r *reader) next() {
	rest := strings.TrimLeft(r.text[r.at+len(r.word):], " ")
	r.at = len(r.text) - len(rest)
	r.word = firstWord(rest)
}

// firstWord returns the word or the sign at the beginning of a text. A byte that begins none is returned, too, as it is not one that the reader asks for.
func firstWord(text string) string {
	switch {
	case text == "":
		return ""
	case strings.IndexByte(letters, text[0]) >= 0:
		return text[:len(text)-len(strings.TrimLeft(text, letters+digits+"_."))]
	case strings.IndexByte(digits, text[0]) >= 0:
		return text[:len(text)-len(strings.TrimLeft(text, digits))]
	}
	return text[:1]
}

// prefixOrder arranges nodes in postfix order.
func prefixOrder(nodes []api.Node) []api.Node {
	var expressions [][]api.Node
	for _, n := range nodes {
		first := len(expressions) - operations[n.Op].operands
		whole := append([]api.Node{n}, slices.Concat(expressions[first:]...)...)
		expressions = append(expressions[:first], whole)
	}
	return expressions[0]
}
