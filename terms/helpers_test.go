package terms_test

import (
	"fmt"
	"math/rand/v2"
	"slices"
	"strconv"
	"strings"
	"testing"

	"robuststats/api"
	"robuststats/formula"
	"robuststats/terms"
)

// show writes a model: its response, 1 for the intercept, and its terms.
func show(m api.Model) string {
	list := []string{m.Response, "~"}
	if m.Intercept {
		list = append(list, "1")
	}
	for _, t := range m.Terms {
		list = append(list, showTerm(t))
	}
	return strings.Join(list, " ")
}

func showTerm(t []api.Factor) string {
	var list []string
	for _, f := range t {
		list = append(list, showFactor(f))
	}
	return strings.Join(list, ":")
}

func showFactor(f api.Factor) string {
	if f.Power == 1 {
		return f.Name
	}
	return f.Name + "^" + strconv.Itoa(f.Power)
}

// read returns the formula of a text.
func read(t *testing.T, text string) api.Formula {
	t.Helper()
	f, at, e := formula.Parse("y ~ " + text)
	if e != api.OK {
		t.Fatalf("%q is no formula: place %d, error %d", text, at, e)
	}
	return f
}

// hasTerms expects the model of a right side.
func hasTerms(t *testing.T, text, want string) {
	t.Helper()
	m, e := terms.Expand(read(t, text))
	if got := show(m); got != strings.TrimRight("y ~ "+want, " ") || e != api.OK {
		t.Errorf("%s: %q, error %d, not %q", text, got, e, want)
	}
	if !terms.Valid(m) {
		t.Errorf("%s: %q is not valid", text, show(m))
	}
}

// fails expects an error, and no model.
func fails(t *testing.T, f api.Formula, want api.Errno) {
	t.Helper()
	m, e := terms.Expand(f)
	if e != want || m.Response != "" || m.Intercept || len(m.Terms) > 0 {
		t.Errorf("%.300v: %q, error %d, not error %d", f, show(m), e, want)
	}
}

// tooLong expects ErrLimit for a right side, and fits no error.
func tooLong(t *testing.T, text string) {
	t.Helper()
	fails(t, read(t, text), api.ErrLimit)
}

func fits(t *testing.T, text string, terms int) {
	t.Helper()
	m, e := expand(t, text)
	n := len(m.Terms)
	if m.Intercept {
		n++
	}
	if e != api.OK || n != terms {
		t.Errorf("%s: %d terms, error %d, not %d terms", text, n, e, terms)
	}
}

func expand(t *testing.T, text string) (api.Model, api.Errno) {
	t.Helper()
	return terms.Expand(read(t, text))
}

// sum is the text of so many variables with different names.
func sum(letter string, n int) string {
	var list []string
	for i := range n {
		list = append(list, letter+strconv.Itoa(i))
	}
	return strings.Join(list, " + ")
}

// A set is what the chapter calls a term: the factors as text, in alphabetical order.
type set = string

func union(s, t set) set {
	list := slices.Concat(strings.Fields(s), strings.Fields(t))
	slices.Sort(list)
	return strings.Join(slices.Compact(list), " ")
}

// A reference expands formulas in the chapter's own words.
type reference struct {
	nodes []api.Node
	over  bool
}

// exceeds takes note of a list beyond the limits.
func (r *reference) exceeds(list []set) {
	r.over = r.over || len(list) > 32
	for _, s := range list {
		r.over = r.over || len(strings.Fields(s)) > 6
	}
}

func plus(a, b []set) []set {
	list := slices.Clone(a)
	for _, t := range b {
		if !slices.Contains(list, t) {
			list = append(list, t)
		}
	}
	return list
}

func minus(a, b []set) []set {
	var list []set
	for _, s := range a {
		if !slices.Contains(b, s) {
			list = append(list, s)
		}
	}
	return list
}

func colon(a, b []set) []set {
	var list []set
	for _, s := range a {
		for _, t := range b {
			list = plus(list, []set{union(s, t)})
		}
	}
	return list
}

func star(a, b []set) []set { return plus(plus(a, b), colon(a, b)) }

func slash(a, b []set) []set {
	list := slices.Clone(a)
	for _, t := range b {
		for _, s := range a {
			t = union(t, s)
		}
		list = plus(list, []set{t})
	}
	return list
}

// list takes the first expression from the nodes. A list that exceeds a limit does not grow any more.
func (r *reference) list() (list []set) {
	n := r.nodes[0]
	r.nodes = r.nodes[1:]
	switch n.Op {
	case api.FVar:
		list = []set{n.Name}
	case api.FPower:
		list = []set{n.Name + "^" + strconv.Itoa(n.Num)}
	case api.FOne:
		list = []set{""}
	case api.FHat:
		one := r.list()
		list = one
		for k := 1; k < n.Num && !r.over; k++ {
			list = star(list, one)
			r.exceeds(list)
		}
	case api.FPlus, api.FMinus, api.FColon, api.FStar, api.FSlash:
		a := r.list()
		b := r.list()
		if !r.over {
			list = map[int]func(a, b []set) []set{api.FPlus: plus, api.FMinus: minus, api.FColon: colon, api.FStar: star, api.FSlash: slash}[n.Op](a, b)
		}
	}
	r.exceeds(list)
	return list
}

// steps makes the model from a list of nodes that is one expression.
func (r *reference) steps(nodes []api.Node) []set {
	model := []set{""}
	op, operand := api.FPlus, nodes
	if nodes[0].Op == api.FPlus || nodes[0].Op == api.FMinus {
		at := 1 + length(nodes[1:])
		model = r.steps(nodes[1:at])
		op, operand = nodes[0].Op, nodes[at:]
	}
	r.nodes = operand
	list := r.list()
	if operand[0].Op == api.FZero {
		list = []set{""}
		op = api.FPlus + api.FMinus - op
	}
	if op == api.FPlus {
		model = plus(model, list)
	} else {
		model = minus(model, list)
	}
	r.exceeds(model)
	return model
}

// length returns the number of nodes of the first expression.
func length(nodes []api.Node) int {
	n, missing := 0, 1
	for ; missing > 0; n++ {
		switch nodes[n].Op {
		case api.FVar, api.FPower, api.FOne, api.FZero:
			missing--
		case api.FPlus, api.FMinus, api.FColon, api.FStar, api.FSlash:
			missing++
		}
	}
	return n
}

// expected returns the text of a formula's model, or false if a limit is exceeded.
func expected(f api.Formula) (string, bool) {
	r := reference{nodes: f.Right}
	r.list()
	model := r.steps(f.Right)
	if r.over {
		return "", false
	}
	var order []string
	for _, n := range f.Right {
		if n.Op == api.FVar || n.Op == api.FPower {
			order = append(order, showFactor(api.Factor{Name: n.Name, Power: max(n.Num, 1)}))
		}
	}
	text := f.Response + " ~"
	for size := range 7 {
		for _, s := range model {
			factors := strings.Fields(s)
			if len(factors) != size {
				continue
			}
			slices.SortFunc(factors, func(a, b string) int { return slices.Index(order, a) - slices.Index(order, b) })
			if size == 0 {
				factors = []string{"1"}
			}
			text += " " + strings.Join(factors, ":")
		}
	}
	return text, true
}

// agrees compares the model of a formula with the reference, and reports whether there is one.
func agrees(t *testing.T, f api.Formula) bool {
	t.Helper()
	want, ok := expected(f)
	if !ok {
		fails(t, f, api.ErrLimit)
		return false
	}
	m, e := terms.Expand(f)
	if show(m) != want || e != api.OK || !terms.Valid(m) {
		text, _ := formula.Format(f)
		t.Errorf("%s: %q, error %d, valid %v, not %q", text, show(m), e, terms.Valid(m), want)
	}
	return true
}

func leaf(random *rand.Rand, variables int) api.Node {
	name := string(rune('a' + random.IntN(variables)))
	switch random.IntN(12) {
	case 0:
		return api.Node{Op: api.FOne}
	case 1:
		return api.Node{Op: api.FZero}
	case 2, 3:
		return api.Node{Op: api.FPower, Name: name, Num: 2 + random.IntN(2)}
	}
	return api.Node{Op: api.FVar, Name: name}
}

// drawn is an expression with so many operations.
func drawn(random *rand.Rand, operations, variables int) []api.Node {
	if operations == 0 {
		return []api.Node{leaf(random, variables)}
	}
	if random.IntN(8) == 0 {
		return append([]api.Node{{Op: api.FHat, Num: 1 + random.IntN(4)}}, drawn(random, operations-1, variables)...)
	}
	op := []int{api.FPlus, api.FPlus, api.FPlus, api.FMinus, api.FColon, api.FStar, api.FStar, api.FSlash}[random.IntN(8)]
	left := random.IntN(operations)
	return slices.Concat([]api.Node{{Op: op}}, drawn(random, left, variables), drawn(random, operations-1-left, variables))
}

// drawnSteps is a right side with at least so many operations and so many steps.
func drawnSteps(random *rand.Rand, operations, steps, variables int) []api.Node {
	nodes := drawn(random, operations, variables)
	for range steps {
		nodes = slices.Concat([]api.Node{{Op: api.FPlus + random.IntN(4)/3}}, nodes, drawn(random, random.IntN(4), variables))
	}
	return nodes
}

// formulas are drawn ones of all lengths.
func formulas(random *rand.Rand, n int) []api.Formula {
	var list []api.Formula
	for range n {
		nodes := drawnSteps(random, random.IntN(15), random.IntN(5), 1+random.IntN(9))
		list = append(list, api.Formula{Response: "y", Right: nodes})
	}
	return list
}

// results writes what all functions say of a formula and of a model.
func results(f api.Formula, m api.Model) string {
	n, e := terms.Expand(f)
	return fmt.Sprint(show(n), e, terms.Valid(m))
}
