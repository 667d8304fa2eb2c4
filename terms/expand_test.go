package terms_test

import (
	"math/rand/v2"
	"slices"
	"strings"
	"testing"

	"robuststats/api"
	"robuststats/terms"
)

// P10.1: what has no operands.
func TestLeaves(t *testing.T) {
	hasTerms(t, "a", "1 a")
	hasTerms(t, "power(a, 2)", "1 a^2")
	hasTerms(t, "power(a, 8)", "1 a^8")
	hasTerms(t, "1", "1")
	hasTerms(t, "0", "")
	hasTerms(t, "y", "1 y")
}

// P10.1: factors are equal if the name and the power are.
func TestFactors(t *testing.T) {
	hasTerms(t, "x + power(x, 2) + power(x, 3) + power(x, 2) + x", "1 x x^2 x^3")
	hasTerms(t, "x:power(x, 2)", "1 x:x^2")
	hasTerms(t, "power(x, 2):power(x, 2)", "1 x^2")
	hasTerms(t, "power(x, 2):power(z, 2)", "1 x^2:z^2")
	hasTerms(t, "x + X", "1 x X")
	hasTerms(t, "x + power(x, 2) - x", "1 x^2")
	hasTerms(t, "x + power(x, 2) - power(x, 3)", "1 x x^2")
}

// P10.1: sums and differences. The brackets make them operands, which are not steps.
func TestSums(t *testing.T) {
	hasTerms(t, "0 + (a + b + a)", "a b")
	hasTerms(t, "0 + (a:b + c:b + b:a)", "a:b b:c")
	hasTerms(t, "0 + (a + 0)", "a")
	hasTerms(t, "0 + (0 + a)", "a")
	hasTerms(t, "0 + (a + 1)", "1 a")
	hasTerms(t, "0 + (1 + 0)", "1")
	hasTerms(t, "0 + (1 - 0)", "1")
	hasTerms(t, "0 + (a - 0)", "a")
	hasTerms(t, "0 + (0 - 0)", "")
	hasTerms(t, "0 + (a + b - a)", "b")
	hasTerms(t, "0 + (a - b)", "a")
	hasTerms(t, "0 + (a - a)", "")
	hasTerms(t, "0 + (a - b + b)", "a b")
	hasTerms(t, "0 + (a + b - a + a)", "b a")
	hasTerms(t, "0 + (a - (b + a))", "")
	hasTerms(t, "0 + (a + b:c - c:b)", "a")
	hasTerms(t, "0 + (a + b:c - b - c)", "a b:c")
	hasTerms(t, "0 + (1 + a - 1)", "a")
}

// P10.1: unions of terms.
func TestColon(t *testing.T) {
	hasTerms(t, "a:b", "1 a:b")
	hasTerms(t, "a:a", "1 a")
	hasTerms(t, "a:b:a", "1 a:b")
	hasTerms(t, "(a + b):(c + d)", "1 a:c a:d b:c b:d")
	hasTerms(t, "(a + b):(b + a)", "1 a b a:b")
	hasTerms(t, "(a + b):(a + b)", "1 a b a:b")
	hasTerms(t, "(a:b):(b:c)", "1 a:b:c")
	hasTerms(t, "0 + a:1", "a")
	hasTerms(t, "0 + 1:a", "a")
	hasTerms(t, "0 + 1:1", "1")
	hasTerms(t, "a:0", "1")
	hasTerms(t, "0:a", "1")
	hasTerms(t, "0 + (1 + a):(1 + b)", "1 b a a:b")
	hasTerms(t, "0 + (a + b:c):(b + a:c)", "a:b a:c b:c a:b:c")
}

// P10.1: a * b.
func TestStar(t *testing.T) {
	hasTerms(t, "a * b", "1 a b a:b")
	hasTerms(t, "b * a", "1 b a b:a")
	hasTerms(t, "a * a", "1 a")
	hasTerms(t, "a * b * c", "1 a b c a:b a:c b:c a:b:c")
	hasTerms(t, "a * (b * c)", "1 a b c b:c a:b a:c a:b:c")
	hasTerms(t, "a * 0", "1 a")
	hasTerms(t, "0 * a", "1 a")
	hasTerms(t, "0 + a * 1", "1 a")
	hasTerms(t, "0 + 1 * a", "1 a")
	hasTerms(t, "(a + b) * (b + c)", "1 a b c a:b a:c b:c")
	hasTerms(t, "a:b * a", "1 a a:b")
	hasTerms(t, "a * power(a, 2)", "1 a a^2 a:a^2")
}

// P10.1: a / b.
func TestSlash(t *testing.T) {
	hasTerms(t, "a / b", "1 a a:b")
	hasTerms(t, "b / a", "1 b b:a")
	hasTerms(t, "a / a", "1 a")
	hasTerms(t, "a / b / c", "1 a a:b a:b:c")
	hasTerms(t, "a / (b / c)", "1 a a:b a:b:c")
	hasTerms(t, "a / (b + c)", "1 a a:b a:c")
	hasTerms(t, "a / (b * c)", "1 a a:b a:c a:b:c")
	hasTerms(t, "(a + b) / c", "1 a b a:b:c")
	hasTerms(t, "(a + b) / (a + b)", "1 a b a:b")
	hasTerms(t, "(a + b) / (c + a:c)", "1 a b a:b:c")
	hasTerms(t, "(a + b) / 1", "1 a b a:b")
	hasTerms(t, "(a + b) / 0", "1 a b")
	hasTerms(t, "0 + 0 / a", "a")
	hasTerms(t, "0 + 0 / (a + 1)", "1 a")
	hasTerms(t, "0 + 1 / a", "1 a")
	hasTerms(t, "0 + a / 1", "a")
	hasTerms(t, "(1 + a:b) / (c + d)", "1 a:b a:b:c a:b:d")
	hasTerms(t, "a / b:c", "1 a a:b:c")
}

// P10.1: a ^ k.
func TestHat(t *testing.T) {
	hasTerms(t, "a^1", "1 a")
	hasTerms(t, "a^6", "1 a")
	hasTerms(t, "(a - a)^3", "1")
	hasTerms(t, "0 + 1^4", "1")
	hasTerms(t, "(a + b - b)^2", "1 a")
	hasTerms(t, "(a + b)^1", "1 a b")
	hasTerms(t, "(a + b)^2", "1 a b a:b")
	hasTerms(t, "(b + a)^2", "1 b a b:a")
	hasTerms(t, "(a + b + c)^2", "1 a b c a:b a:c b:c")
	hasTerms(t, "(a + b + c)^3", "1 a b c a:b a:c b:c a:b:c")
	hasTerms(t, "(a + b + c + d)^2", "1 a b c d a:b a:c a:d b:c b:d c:d")
	hasTerms(t, "(a + b + c + d)^3", "1 a b c d a:b a:c a:d b:c b:d c:d a:b:c a:b:d a:c:d b:c:d")
	hasTerms(t, "(a + b + c + d)^2^2", "1 a b c d a:b a:c a:d b:c b:d c:d a:b:c a:b:d a:c:d b:c:d a:b:c:d")
	hasTerms(t, "0 + (1 + a)^2", "1 a")
	hasTerms(t, "(a:b + c)^2", "1 c a:b a:b:c")
	hasTerms(t, "(a / b)^2", "1 a a:b")
}

// P10.2: the steps of a right side.
func TestSteps(t *testing.T) {
	hasTerms(t, "a + 0", "a")
	hasTerms(t, "0 + a", "a")
	hasTerms(t, "(0 + a)", "a")
	hasTerms(t, "((a + 0) + b)", "a b")
	hasTerms(t, "a - 1", "a")
	hasTerms(t, "a + 1", "1 a")
	hasTerms(t, "a - 0", "1 a")
	hasTerms(t, "0 + a + 1", "1 a")
	hasTerms(t, "0 + a - 0", "1 a")
	hasTerms(t, "a - 1 - 0", "1 a")
	hasTerms(t, "a - 1 - 0 - 1", "a")
	hasTerms(t, "a - 1 + 1 + 0", "a")
	hasTerms(t, "0 + 0 + 0", "")
	hasTerms(t, "1 + 1 - 1", "")
	hasTerms(t, "0 - 0", "1")
	hasTerms(t, "1 - 1", "")
	hasTerms(t, "a + b - a", "1 b")
	hasTerms(t, "a - b", "1 a")
	hasTerms(t, "a - b + b", "1 a b")
	hasTerms(t, "a + b - a + a", "1 b a")
	hasTerms(t, "a - (a + 1)", "")
	hasTerms(t, "a + (1 + b) - 1", "a b")
	hasTerms(t, "0 + (1 + b)", "1 b")
	hasTerms(t, "a * b * c - a:b:c - a", "1 b c a:b a:c b:c")
	hasTerms(t, "a - a", "1")
}

// P10.2: only FZero itself removes the empty term when it is added; other expressions add and remove their terms.
func TestZeroBelowTheSteps(t *testing.T) {
	hasTerms(t, "a + (b + 0)", "1 a b")
	hasTerms(t, "a + (0 + b)", "1 a b")
	hasTerms(t, "a + (0 - b)", "1 a")
	hasTerms(t, "a + 0:b", "1 a")
	hasTerms(t, "a + 0^1", "1 a")
	hasTerms(t, "0^1 + a", "1 a")
	hasTerms(t, "0 + a - 0^1", "a")
	hasTerms(t, "0 + a - (0 + 0)", "a")
	hasTerms(t, "0 + a - (1 - 1)", "a")
	hasTerms(t, "0 * 0", "1")
	hasTerms(t, "0 / 0", "1")
	hasTerms(t, "(0 + a)^1", "1 a")
	hasTerms(t, "(0 + a) * b", "1 a b a:b")
}

// P10.3: terms stand in the order of their numbers of factors, and then in that of the list.
func TestOrderOfTerms(t *testing.T) {
	hasTerms(t, "a:b + a", "1 a a:b")
	hasTerms(t, "d:e:f + b:c + e:f + g + a + b:a", "1 g a b:c e:f b:a d:e:f")
	hasTerms(t, "a * b + c", "1 a b c a:b")
	hasTerms(t, "a:b:c - 1 + a:b + 1 + c + b", "1 c b a:b a:b:c")
	hasTerms(t, "c:d + a:b + d:c + b:a", "1 c:d a:b")
	hasTerms(t, "a:b + c:d - a:b + a:b", "1 c:d a:b")
}

// P10.3: factors stand in the order in which they first occur in the right side, whatever becomes of the terms there.
func TestOrderOfFactors(t *testing.T) {
	hasTerms(t, "b:a + a:b", "1 b:a")
	hasTerms(t, "a - a + b:a", "1 a:b")
	hasTerms(t, "d:c:b + a:b + c", "1 c b:a d:c:b")
	hasTerms(t, "c:0 + a:b:c", "1 c:a:b")
	hasTerms(t, "x:power(x, 2) + power(x, 2):x", "1 x:x^2")
	hasTerms(t, "power(x, 2):x + x:power(x, 2)", "1 x^2:x")
	hasTerms(t, "x + power(x, 3):power(x, 2):x", "1 x x:x^3:x^2")
	hasTerms(t, "b + (a + c):(c + b)", "1 b c a:c b:a b:c")
	hasTerms(t, "f:e:d:c:b:a", "1 f:e:d:c:b:a")
}

// P10.3: the response is that of the formula, also among the terms.
func TestResponse(t *testing.T) {
	for _, name := range []string{"a", "Y.1_", "powers", strings.Repeat("w", 32)} {
		m, e := terms.Expand(api.Formula{Response: name, Right: []api.Node{{Op: api.FVar, Name: "a"}}})
		if show(m) != name+" ~ 1 a" || e != api.OK || !terms.Valid(m) {
			t.Errorf("%q: %q, error %d", name, show(m), e)
		}
	}
}

// P10.1 to P10.3: all short formulas, compared with the chapter's words.
func TestAllShort(t *testing.T) {
	leaves := []api.Node{{Op: api.FVar, Name: "a"}, {Op: api.FVar, Name: "b"}, {Op: api.FPower, Name: "a", Num: 2}, {Op: api.FOne}, {Op: api.FZero}}
	var lists [6][][]api.Node
	for _, n := range leaves {
		lists[1] = append(lists[1], []api.Node{n})
	}
	for size := 2; size < len(lists); size++ {
		for _, below := range lists[size-1] {
			lists[size] = append(lists[size], append([]api.Node{{Op: api.FHat, Num: 2}}, below...))
		}
		for left := 1; left < size-1; left++ {
			for _, op := range []int{api.FPlus, api.FMinus, api.FColon, api.FStar, api.FSlash} {
				for _, a := range lists[left] {
					for _, b := range lists[size-1-left] {
						lists[size] = append(lists[size], slices.Concat([]api.Node{{Op: op}}, a, b))
					}
				}
			}
		}
	}
	for _, list := range lists {
		for _, nodes := range list {
			if !agrees(t, api.Formula{Response: "y", Right: nodes}) {
				t.Fatalf("%v exceeds a limit", nodes)
			}
		}
	}
	if n := len(lists[5]); n < 6000 {
		t.Errorf("only %d formulas of 5 nodes", n)
	}
}

// P10.1 to P10.3: drawn formulas, compared with the chapter's words.
func TestDrawn(t *testing.T) {
	accepted, refused := 0, 0
	for _, f := range formulas(rand.New(rand.NewPCG(10, 1)), 20000) {
		if agrees(t, f) {
			accepted++
		} else {
			refused++
		}
	}
	if accepted < 5000 || refused < 500 {
		t.Errorf("%d are accepted, and %d exceed a limit", accepted, refused)
	}
}

// sorted returns the terms of a model in an order that does not depend on that of its terms and factors.
func sorted(m api.Model) []string {
	var list []string
	for _, t := range m.Terms {
		var names []string
		for _, f := range t {
			names = append(names, showFactor(f))
		}
		slices.Sort(names)
		list = append(list, strings.Join(names, ":"))
	}
	if m.Intercept {
		list = append(list, "1")
	}
	slices.Sort(list)
	return list
}

// Consequences: a * b, a + b + a:b and b * a have the same sets of terms, for all operands.
func TestStarIsASum(t *testing.T) {
	random := rand.New(rand.NewPCG(10, 2))
	node := func(op int) []api.Node { return []api.Node{{Op: op}} }
	compared := 0
	for range 3000 {
		a, b := drawn(random, random.IntN(5), 4), drawn(random, random.IntN(5), 4)
		var models []api.Model
		var errors []api.Errno
		for _, nodes := range [][]api.Node{
			slices.Concat(node(api.FStar), a, b),
			slices.Concat(node(api.FStar), b, a),
			slices.Concat([]api.Node{{Op: api.FHat, Num: 1}}, node(api.FPlus), node(api.FPlus), a, b, node(api.FColon), a, b),
		} {
			m, e := terms.Expand(api.Formula{Response: "y", Right: nodes})
			models, errors = append(models, m), append(errors, e)
		}
		if errors[1] != errors[0] || errors[2] != errors[0] || !slices.Equal(sorted(models[1]), sorted(models[0])) || show(models[2]) != show(models[0]) {
			t.Errorf("%v and %v: %v, errors %v", a, b, models, errors)
		}
		if errors[0] == api.OK {
			compared++
		}
	}
	if compared < 2000 {
		t.Errorf("only %d models", compared)
	}
}

// Consequences: a + 0 and a - 1 have no intercept, for all right sides a, and 0 + a has one only if it is among the terms of a.
func TestWithoutIntercept(t *testing.T) {
	random := rand.New(rand.NewPCG(10, 3))
	for range 3000 {
		a := drawn(random, random.IntN(6), 4)
		for _, x := range []struct{ first, last []api.Node }{
			{[]api.Node{{Op: api.FPlus}}, []api.Node{{Op: api.FZero}}},
			{[]api.Node{{Op: api.FMinus}}, []api.Node{{Op: api.FOne}}},
		} {
			if m, e := terms.Expand(api.Formula{Response: "y", Right: slices.Concat(x.first, a, x.last)}); m.Intercept || e != api.OK && e != api.ErrLimit {
				t.Errorf("%v%v%v: %q, error %d", x.first, a, x.last, show(m), e)
			}
		}
		r := reference{nodes: a}
		list := r.list()
		if m, e := terms.Expand(api.Formula{Response: "y", Right: slices.Concat([]api.Node{{Op: api.FPlus}, {Op: api.FZero}}, a)}); e == api.OK && m.Intercept != slices.Contains(list, "") {
			t.Errorf("0 + %v: %q", a, show(m))
		}
	}
}
