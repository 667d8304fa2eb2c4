package terms_test

import (
	"math"
	"slices"
	"strings"
	"testing"

	"robuststats/api"
)

// five is an expression with 31 terms, of 1 to 5 factors.
const five = "a * b * c * d * e"

// P10.3: a term has at most MaxFactors factors.
func TestFactorLimit(t *testing.T) {
	hasTerms(t, "a:b:c:d:e:f", "1 a:b:c:d:e:f")
	hasTerms(t, "a:b:c:d:e:f:a:f", "1 a:b:c:d:e:f")
	hasTerms(t, "x:power(x, 2):power(x, 3):power(x, 4):power(x, 5):power(x, 6)", "1 x:x^2:x^3:x^4:x^5:x^6")
	tooLong(t, "a:b:c:d:e:f:g")
	tooLong(t, "x:power(x, 2):power(x, 3):power(x, 4):power(x, 5):power(x, 6):power(x, 7)")
	fits(t, "a:b:c * d:e:f", 4)
	tooLong(t, "a:b:c * d:e:f:g")
	tooLong(t, "a:b:c:d:e:f * g")
	fits(t, "(a:b + c:d + e:f)^3", 8)
	tooLong(t, "(a:b + c:d + e:f:g)^3")
	fits(t, "(a:b + c:d + e:f:g)^2", 7)
	fits(t, "(a + b + c + d) / (e:f)", 6)
	tooLong(t, "(a + b + c + d) / (e:f:g)")
	fits(t, "a / b / c / d / e / f", 7)
	tooLong(t, "a / b / c / d / e / f / g")
}

// P10.3: only terms of lists count; the union that FSlash needs is none if there is nothing behind the sign.
func TestUnionWithoutTerm(t *testing.T) {
	fits(t, "("+sum("a", 7)+") / 0", 8)
	fits(t, "("+sum("a", 28)+") / (b - b)", 29)
	fits(t, "("+sum("a", 6)+") / 1", 8)
	tooLong(t, "("+sum("a", 7)+") / 1")
	tooLong(t, "("+sum("a", 7)+") / a0")
}

// P10.3: a list that is an operand has at most MaxTerms terms.
func TestTermLimitOfOperands(t *testing.T) {
	fits(t, "0 + ("+five+" + f)", 32)
	tooLong(t, "0 + ("+five+" + f + g)")
	fits(t, "("+five+" + 1)", 32)
	tooLong(t, "("+five+" + f + 1)")
	tooLong(t, "0 + ("+five+" + f + 1)")
	fits(t, "0 + ("+five+" + 1):f", 32)
	tooLong(t, "0 + (("+five+"):(f + 1))")
	fits(t, "0 + (a + b + c + d):(e + f + g + h + i + j + k + l)", 32)
	tooLong(t, "0 + (a + b + c):(d + e + f + g + h + i + j + k + l + m + n)")
	fits(t, five, 32)
	tooLong(t, five+" * f")
	fits(t, "(a + b + c + d + e)^5", 32)
	fits(t, "(a + b + c + d + e + 1)^5", 32)
	fits(t, "(a + b + c + d + e + f + g)^2", 29)
	tooLong(t, "(a + b + c + d + e + f + g + h)^2")
	fits(t, "(a + b + c + d + e + f)^2", 22)
	tooLong(t, "(a + b + c + d + e + f)^3")
	tooLong(t, "(a + b + c + d + e + f)^6")
	fits(t, "0 + a / (b * c * d * e * f)", 32)
	fits(t, "0 + a / (b * c * d * e * f + 1)", 32)
	tooLong(t, "0 + a / (b * c * d * e * f + g)")
}

// P10.3: a list counts even if what is made of it is short.
func TestLimitOfWhatIsNotLeft(t *testing.T) {
	tooLong(t, "a:b:c:d:e:f:g - a:b:c:d:e:f:g")
	tooLong(t, "a - a:b:c:d:e:f:g")
	tooLong(t, "(a:b:c:d:e:f:g):0")
	tooLong(t, "0 / a:b:c:d:e:f:g")
	tooLong(t, "(a:b:c:d:e:f:g - a:b:c:d:e:f:g)^2")
	tooLong(t, "a - "+five+" * f")
	tooLong(t, "0 + ("+five+" + f + g - g)")
	tooLong(t, "0 + ("+five+" + f + g):0")
	tooLong(t, "0 + (a - ("+five+" + f + g))")
	tooLong(t, "0:("+five+" + f + g)")
	tooLong(t, "(a + b + c + d + e + f)^3 - (a + b + c + d + e + f)^3")
	tooLong(t, "(a + b + c + d + e + f)^2^2^6^6^6 - 1")
}

// P10.3: the list of the model behind a step has at most MaxTerms terms, the empty one counted.
func TestTermLimitOfSteps(t *testing.T) {
	fits(t, sum("a", 31), 32)
	tooLong(t, sum("a", 32))
	fits(t, "0 + "+sum("a", 31), 31)
	fits(t, "0 + "+five+" + f", 32)
	tooLong(t, five+" + f")
	tooLong(t, five+" + f - f")
	tooLong(t, five+" + f - 1")
	tooLong(t, five+" + f + 0")
	fits(t, five+" - 1 + f", 32)
	fits(t, five+" - a + f", 32)
	tooLong(t, five+" - 1 + f + 1")
	tooLong(t, five+" - 1 + f - 0")
	tooLong(t, five+" - 1 + f - 0 - 1")
	tooLong(t, "0 + "+five+" + f + g - g")
	fits(t, "0 + "+five+" + f - g", 32)
	fits(t, five+" + "+five+" + a + (1 + a)", 32)
}

// P10.3: the right side is an expression, too, and so is what stands before each step: their lists count as they are without a meaning of 0.
func TestTermLimitOfTheRightSide(t *testing.T) {
	tooLong(t, "1 + 0 + "+five+" + f")
	tooLong(t, "1 + "+five+" + 0 + f")
	tooLong(t, "1 + 0 + "+five+" + f - f")
	fits(t, "1 + 0 + "+five, 31)
	fits(t, "1 - 1 + "+five+" + f", 32)
}

// P10.3: the longest formulas.
func TestLongest(t *testing.T) {
	node := func(op, num int) api.Node { return api.Node{Op: op, Num: num} }
	for _, op := range []int{api.FPlus, api.FMinus, api.FColon, api.FStar, api.FSlash} {
		for _, names := range []int{1, 2, 6, 7, 31, 32} {
			var leaves []api.Node
			for i := range 32 {
				leaves = append(leaves, api.Node{Op: api.FVar, Name: strings.Repeat("w", i%names+1)})
			}
			left := append(slices.Repeat([]api.Node{node(op, 0)}, 31), leaves...)
			var right []api.Node
			for _, n := range leaves[1:] {
				right = append(right, node(op, 0), n)
			}
			right = append(right, leaves[0])
			for _, nodes := range [][]api.Node{left, right, append([]api.Node{node(api.FHat, 6)}, left...), append([]api.Node{node(api.FHat, 6)}, right...)} {
				agrees(t, api.Formula{Response: "y", Right: nodes})
			}
		}
	}
	agrees(t, api.Formula{Response: "y", Right: append(slices.Repeat([]api.Node{node(api.FHat, 6)}, 63), api.Node{Op: api.FVar, Name: "a"})})
	for hats := range 56 {
		agrees(t, api.Formula{Response: "y", Right: slices.Concat(slices.Repeat([]api.Node{node(api.FHat, 6)}, hats), read(t, "(a + b + c + 1)^2").Right)})
		agrees(t, api.Formula{Response: "y", Right: slices.Concat(slices.Repeat([]api.Node{node(api.FHat, 6)}, hats), read(t, "a + b + c + d").Right)})
	}
}

// P10.3: formulas that are not valid.
func TestNotAFormula(t *testing.T) {
	a := api.Node{Op: api.FVar, Name: "a"}
	right := read(t, "a + b").Right
	for _, response := range []string{"", "1", "power", "y z", strings.Repeat("w", 33), "\u00e9"} {
		fails(t, api.Formula{Response: response, Right: right}, api.ErrForm)
	}
	for _, nodes := range [][]api.Node{
		nil, {}, {{}}, {a, a}, {{Op: api.FPlus}, a}, {a, {Op: api.FPlus}, a}, {{Op: api.FHat, Num: 2}}, {{Op: api.FPlus}, a, a, a},
		{{Op: api.FVar}}, {{Op: api.FVar, Name: "power"}}, {{Op: api.FVar, Name: "a", Num: 1}}, {{Op: api.FPower, Name: "a", Num: 1}}, {{Op: api.FPower, Name: "a", Num: 9}}, {{Op: api.FOne, Num: 1}}, {{Op: api.FZero, Name: "a"}},
		{{Op: api.FHat, Num: 0}, a}, {{Op: api.FHat, Num: 7}, a}, {{Op: api.FHat, Num: math.MaxInt}, a}, {{Op: 11}, a, a}, {{Op: -1}}, {{Op: math.MinInt}}, {{Op: api.FColon, Num: 1}, a, a},
		append(slices.Repeat([]api.Node{{Op: api.FHat, Num: 1}}, 64), a), make([]api.Node, 1<<16),
	} {
		fails(t, api.Formula{Response: "y", Right: nodes}, api.ErrForm)
	}
}

// R4: a formula that is not valid is not judged for its length.
func TestFormBeforeLimit(t *testing.T) {
	long := read(t, "a:b:c:d:e:f:g").Right
	fails(t, api.Formula{Response: "y", Right: long}, api.ErrLimit)
	fails(t, api.Formula{Response: "", Right: long}, api.ErrForm)
	fails(t, api.Formula{Response: "y", Right: append(slices.Clone(long), api.Node{Op: api.FOne})}, api.ErrForm)
	fails(t, api.Formula{Response: "y", Right: long[:len(long)-1]}, api.ErrForm)
}
