package formula_test

import (
	"fmt"
	"math/rand/v2"
	"regexp"
	"slices"
	"strings"
	"testing"

	"robuststats/api"
	"robuststats/formula"
)

// P9.3: each kind of node, with its spaces.
func TestFormat(t *testing.T) {
	a, b, c := v("a"), v("b"), v("c")
	writes(t, "y ~ a", "y", a)
	writes(t, "Y.1_ ~ 0", "Y.1_", op(api.FZero))
	writes(t, "y ~ 1", "y", op(api.FOne))
	writes(t, "y ~ power(x.2, 8)", "y", power("x.2", 8))
	writes(t, "y ~ a + b", "y", op(api.FPlus), a, b)
	writes(t, "y ~ a - b", "y", op(api.FMinus), a, b)
	writes(t, "y ~ a * b", "y", op(api.FStar), a, b)
	writes(t, "y ~ a / b", "y", op(api.FSlash), a, b)
	writes(t, "y ~ a:b", "y", op(api.FColon), a, b)
	writes(t, "y ~ a^6", "y", hat(6), a)
	writes(t, "y ~ 0^1:1^2 + power(a, 2)^3", "y", op(api.FPlus), op(api.FColon), hat(1), op(api.FZero), hat(2), op(api.FOne), hat(3), power("a", 2))
	writes(t, "y ~ a^1^2^3", "y", hat(3), hat(2), hat(1), a)
	writes(t, "y ~ ((a + b)^2 * c)^3", "y", hat(3), op(api.FStar), hat(2), op(api.FPlus), a, b, c)
	writes(t, "y ~ (a:b)^1:(a:c - 1) / (b / c)", "y", op(api.FSlash), op(api.FColon), hat(1), op(api.FColon), a, b, op(api.FMinus), op(api.FColon), a, c, op(api.FOne), op(api.FSlash), b, c)
	writes(t, "y ~ a - (b - (c - (a - b)))", "y", op(api.FMinus), a, op(api.FMinus), b, op(api.FMinus), c, op(api.FMinus), a, b)
	writes(t, "y ~ a - b - c - a - b", "y", op(api.FMinus), op(api.FMinus), op(api.FMinus), op(api.FMinus), a, b, c, a, b)
}

// P9.3: which operands stand in brackets, for each pair of operations.
func TestBrackets(t *testing.T) {
	spaced := map[string]string{"+": " + ", "-": " - ", "*": " * ", "/": " / ", ":": ":"}
	for _, s := range []byte(signs) {
		for _, u := range []byte(signs) {
			outer, inner := op(ops[s]), op(ops[u])
			text := "a" + spaced[string(u)] + "b"
			left, right := text, text
			if ranks[inner.Op] < ranks[outer.Op] {
				left = "(" + text + ")"
			}
			if ranks[inner.Op] <= ranks[outer.Op] {
				right = "(" + text + ")"
			}
			writes(t, "y ~ "+left+spaced[string(s)]+"c", "y", outer, inner, v("a"), v("b"), v("c"))
			writes(t, "y ~ c"+spaced[string(s)]+right, "y", outer, v("c"), inner, v("a"), v("b"))
		}
		text := "a" + spaced[string(s)] + "b"
		writes(t, "y ~ ("+text+")^2", "y", hat(2), op(ops[s]), v("a"), v("b"))
		writes(t, "y ~ ("+text+")^2^3", "y", hat(3), hat(2), op(ops[s]), v("a"), v("b"))
		writes(t, "y ~ a^2"+spaced[string(s)]+"1^3", "y", op(ops[s]), hat(2), v("a"), hat(3), op(api.FOne))
		writes(t, "y ~ power(a, 2)"+spaced[string(s)]+"power(a, 3)", "y", op(ops[s]), power("a", 2), power("a", 3))
	}
}

// form are the words and signs of a formatted text, with its spaces.
var form = regexp.MustCompile(`\A[a-zA-Z][a-zA-Z0-9_.]* ~ \(*` + leaf + `(?:\)|\^[1-6])*(?:(?: [-+*/] |:)\(*` + leaf + `(?:\)|\^[1-6])*)*\z`)

const leaf = `(?:[01]|power\([a-zA-Z][a-zA-Z0-9_.]*, [2-8]\)|[a-zA-Z][a-zA-Z0-9_.]*)`

// P9.3: formulas that are drawn are read back, and with a pair of brackets less they are others.
func TestFormatDrawn(t *testing.T) {
	random := rand.New(rand.NewPCG(9, 3))
	pairs := 0
	for range 2000 {
		f := api.Formula{Response: drawnName(random), Right: drawnNodes(random, random.IntN(16))}
		text, e := formula.Format(f)
		if e != api.OK || !form.MatchString(text) {
			t.Errorf("%v: %q, error %d", f, text, e)
		}
		reads(t, text, f.Response, f.Right...)
		for i := range text {
			if text[i] != '(' || strings.HasSuffix(text[:i], " power") || strings.HasSuffix(text[:i], "(power") || strings.HasSuffix(text[:i], ":power") {
				continue
			}
			pairs++
			j := closing(text, i)
			less := text[:i] + text[i+1:j] + text[j+1:]
			if g, at, e := formula.Parse(less); same(f, g) || at != 0 || e != api.OK {
				t.Errorf("%q needs no brackets at %d: %v, place %d, error %d", text, i, g, at, e)
			}
		}
	}
	if pairs < 1000 {
		t.Errorf("only %d pairs of brackets", pairs)
	}
}

// closing returns the place of the bracket that closes one.
func closing(text string, place int) int {
	open := 0
	for i := place; ; i++ {
		open += strings.Count(text[i:i+1], "(") - strings.Count(text[i:i+1], ")")
		if open == 0 {
			return i
		}
	}
}

// P8, Consequences: what is read is written so that it is read again, and then written the same.
func TestFormatIsSettled(t *testing.T) {
	random := rand.New(rand.NewPCG(9, 4))
	for range 1000 {
		nodes := drawnNodes(random, random.IntN(10))
		text, _ := drawnText(random, nodes)
		f, _, _ := formula.Parse("y~" + text)
		first, _ := formula.Format(f)
		g, _, _ := formula.Parse(first)
		if second, e := formula.Format(g); second != first || e != api.OK || !same(f, g) || !slices.Equal(f.Right, nodes) {
			t.Errorf("%q: %q and %q, error %d", text, first, second, e)
		}
	}
}

// P9.3: the longest formulas.
func TestFormatLongest(t *testing.T) {
	name := strings.Repeat("w", api.MaxName)
	var left, right []api.Node
	for range 31 {
		left = append(left, op(api.FPlus))
		right = append(right, op(api.FPlus), power(name, 8))
	}
	for range 32 {
		left = append(left, power(name, 8))
	}
	right = append(right, power(name, 8))
	text := fmt.Sprintf("power(%s, 8)", name)
	writes(t, name+" ~ "+strings.Repeat(text+" + ", 31)+text, name, left...)
	writes(t, name+" ~ "+strings.Repeat(text+" + (", 30)+text+" + "+text+strings.Repeat(")", 30), name, right...)
	writes(t, "y ~ "+text+strings.Repeat("^6", 63), "y", append(slices.Repeat([]api.Node{hat(6)}, 63), power(name, 8))...)
}
