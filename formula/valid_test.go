package formula_test

import (
	"math"
	"math/rand/v2"
	"slices"
	"strings"
	"testing"

	"robuststats/api"
)

// P9.2: the fields of each kind of node.
func TestValidNodes(t *testing.T) {
	texts := []string{"", "a", "power", "powers", "1", "a b", "_", "a\n", "a(", " a", strings.Repeat("w", 32), strings.Repeat("w", 33), "caf\u00e9"}
	nums := []int{0, 1, 2, 3, 4, 5, 6, 7, 8, 9, 10, -1, -2, 256, 1 << 32, math.MaxInt, math.MinInt}
	operations := []int{-1, 0, 1, 2, 3, 4, 5, 6, 7, 8, 9, 10, 11, 12, 256, 266, 1 << 32, math.MaxInt, math.MinInt}
	accepted := 0
	for _, o := range operations {
		for _, text := range texts {
			for _, num := range nums {
				n := api.Node{Op: o, Name: text, Num: num}
				for _, nodes := range [][]api.Node{{n}, {n, v("a")}, {n, v("a"), v("b")}, {n, v("a"), v("b"), v("c")}, {op(api.FPlus), n, v("a")}, {op(api.FColon), v("a"), n}, {hat(2), n}} {
					f := api.Formula{Response: "y", Right: nodes}
					judges(t, f, isFormula(f))
					if isFormula(f) {
						accepted++
					}
				}
			}
		}
	}
	// Names with FVar are three, and with FPower, too, each with 7 exponents; they are accepted alone and below three others.
	if want := 4*(3+3*7+2) + 6 + 5; accepted != want {
		t.Errorf("%d are accepted, not %d", accepted, want)
	}
}

// P9.2: the response is a name.
func TestValidResponse(t *testing.T) {
	right := []api.Node{op(api.FPlus), v("a"), op(api.FOne)}
	for s, want := range map[string]bool{
		"y": true, "a": true, "Y_.9": true, strings.Repeat("w", 32): true, "powers": true, "Power": true,
		"": false, "power": false, strings.Repeat("w", 33): false, "1": false, "0": false, "_y": false, ".y": false, "y ": false, " y": false, "y ~": false, "y+z": false, "\u00e9": false, "y\x00": false, strings.Repeat("w", 1<<20): false,
	} {
		judges(t, api.Formula{Response: s, Right: right}, want)
	}
}

// P9.2: exactly one expression.
func TestValidOrder(t *testing.T) {
	a, plus := v("a"), op(api.FPlus)
	for _, x := range []struct {
		nodes []api.Node
		want  bool
	}{
		{nil, false}, {[]api.Node{a}, true}, {[]api.Node{plus}, false}, {[]api.Node{hat(2)}, false}, {[]api.Node{a, a}, false}, {[]api.Node{a, plus}, false}, {[]api.Node{plus, a}, false}, {[]api.Node{a, plus, a}, false}, {[]api.Node{a, a, plus}, false}, {[]api.Node{plus, a, a}, true}, {[]api.Node{plus, a, a, a}, false}, {[]api.Node{plus, plus, a, a}, false}, {[]api.Node{plus, a, plus, a, a}, true}, {[]api.Node{plus, plus, a, a, a}, true}, {[]api.Node{plus, a, a, plus, a}, false},
		{[]api.Node{hat(2), a}, true}, {[]api.Node{a, hat(2)}, false}, {[]api.Node{hat(2), a, a}, false}, {[]api.Node{hat(2), plus, a}, false}, {[]api.Node{hat(2), plus, a, a}, true}, {[]api.Node{plus, hat(2), a, a}, true}, {[]api.Node{plus, a, a, hat(2)}, false}, {[]api.Node{power("a", 2), a}, false}, {[]api.Node{op(api.FOne), op(api.FZero)}, false}, {make([]api.Node, 3), false}, {make([]api.Node, 1<<16), false},
	} {
		judges(t, api.Formula{Response: "y", Right: x.nodes}, x.want)
	}
}

// P9.2: at most 64 nodes.
func TestValidLimit(t *testing.T) {
	for _, n := range []int{62, 63, 64, 65, 66, 1000} {
		judges(t, api.Formula{Response: "y", Right: append(slices.Repeat([]api.Node{hat(1)}, n-1), v("a"))}, n <= 64)
		judges(t, api.Formula{Response: "y", Right: append(slices.Repeat([]api.Node{hat(1)}, n), v("a"))[1:]}, n <= 64)
		if n%2 == 1 {
			sum := append(slices.Repeat([]api.Node{op(api.FSlash)}, n/2), slices.Repeat([]api.Node{op(api.FOne)}, n/2+1)...)
			judges(t, api.Formula{Response: "y", Right: sum}, n <= 64)
			judges(t, api.Formula{Response: "y", Right: append([]api.Node{hat(3)}, sum...)}, n < 64)
		}
	}
}

// P9.2: lists of nodes that are drawn, and expressions with a change.
func TestValidDrawn(t *testing.T) {
	random := rand.New(rand.NewPCG(9, 5))
	accepted := 0
	for range 5000 {
		f := api.Formula{Response: "y"}
		if random.IntN(2) == 0 {
			for range random.IntN(8) {
				f.Right = append(f.Right, drawnNodes(random, 1)[0], drawnNodes(random, 0)[0])
			}
		} else {
			f.Right = spoiled(random, drawnNodes(random, random.IntN(36)))
		}
		judges(t, f, isFormula(f))
		if isFormula(f) {
			accepted++
		}
	}
	if accepted < 500 || accepted > 4500 {
		t.Errorf("%d of 5000 are accepted", accepted)
	}
}

// spoiled changes nodes in most cases.
func spoiled(random *rand.Rand, nodes []api.Node) []api.Node {
	i := random.IntN(len(nodes))
	switch random.IntN(8) {
	case 0:
		nodes[i].Op += random.IntN(5) - 2
	case 1:
		nodes[i].Num += random.IntN(5) - 2
	case 2:
		nodes[i].Name = []string{"", "a", "power", "1"}[random.IntN(4)]
	case 3:
		nodes = slices.Delete(nodes, i, i+1)
	case 4:
		nodes = slices.Insert(nodes, i, drawnNodes(random, 0)[0])
	case 5:
		j := random.IntN(len(nodes))
		nodes[i], nodes[j] = nodes[j], nodes[i]
	}
	return nodes
}
