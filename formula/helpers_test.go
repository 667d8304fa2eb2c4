package formula_test

import (
	"fmt"
	"math/rand/v2"
	"regexp"
	"slices"
	"strings"
	"testing"

	"robuststats/api"
	"robuststats/formula"
)

// signs are those of the operations with two operands, and ranks their rules, a greater one for a tighter rule.
const signs = "+-*/:"

var (
	ops   = map[byte]int{'+': api.FPlus, '-': api.FMinus, '*': api.FStar, '/': api.FSlash, ':': api.FColon}
	ranks = map[int]int{api.FPlus: 1, api.FMinus: 1, api.FStar: 2, api.FSlash: 2, api.FColon: 3, api.FHat: 4, api.FVar: 5, api.FPower: 5, api.FOne: 5, api.FZero: 5}
)

func signOf(o int) string {
	return string(signs[slices.IndexFunc([]byte(signs), func(c byte) bool { return ops[c] == o })])
}

func v(name string) api.Node { return api.Node{Op: api.FVar, Name: name} }

func op(o int) api.Node { return api.Node{Op: o} }

func hat(k int) api.Node { return api.Node{Op: api.FHat, Num: k} }

func power(name string, k int) api.Node { return api.Node{Op: api.FPower, Name: name, Num: k} }

// names are the chapter's names as a regular expression.
var names = regexp.MustCompile(`\A[a-zA-Z][a-zA-Z0-9_.]{0,31}\z`)

func isName(s string) bool {
	return names.MatchString(s) && s != "power"
}

// words are the words and signs of a text, and its other bytes.
var words = regexp.MustCompile(`[a-zA-Z][a-zA-Z0-9_.]*|[0-9]+|[^ ]`)

// kind is a byte for a word: n for a name, p for power, a digit or a sign for itself, and ! for what is wrong everywhere.
func kind(word string) string {
	switch {
	case isName(word):
		return "n"
	case word == "power":
		return "p"
	case len(word) == 1 && strings.Contains("0123456789~(),^"+signs, word):
		return word
	}
	return "!"
}

// The grammar for the kinds of words, in which v is a primary expression that has been replaced, and lists whose last kind is an exponent out of its range.
var (
	aPower = regexp.MustCompile(`p\(n,[0-9]\)`)
	flat   = `[nv01](?:\^[0-9])*(?:[-+*/:][nv01](?:\^[0-9])*)*`
	inner  = regexp.MustCompile(`\(` + flat + `\)`)
	whole  = regexp.MustCompile(`\An~` + flat + `\z`)
	out    = regexp.MustCompile(`(?:\^[07-9]|,[019])\z`)
)

// derives reports whether the grammar derives a list of kinds.
func derives(kinds string) bool {
	kinds = aPower.ReplaceAllString(kinds, "v")
	for inner.MatchString(kinds) {
		kinds = inner.ReplaceAllString(kinds, "v")
	}
	return whole.MatchString(kinds)
}

// begins reports whether a formula begins with a list of kinds.
func begins(kinds string) bool {
	for _, tail := range []string{"", "n~n", "~n", "n", "(n,2)", "n,2)", ",2)", "2)", ")", "2"} {
		for open := range max(0, strings.Count(kinds, "(")-strings.Count(kinds, ")")) + 1 {
			if derives(kinds + tail + strings.Repeat(")", open)) {
				return true
			}
		}
	}
	return false
}

// expected returns the place of the first error of a text, without the limits.
func expected(text string) (int, api.Errno) {
	kinds := ""
	for _, at := range words.FindAllStringIndex(text, -1) {
		kinds += kind(text[at[0]:at[1]])
		if !begins(kinds) {
			return at[0], api.ErrSyntax
		}
		if out.MatchString(kinds) {
			return at[0], api.ErrRange
		}
	}
	if !derives(kinds) {
		return len(text), api.ErrSyntax
	}
	return 0, api.OK
}

// value returns the nodes of the words of an expression: it is split at the last sign of the loosest rule outside of brackets.
func value(list []string) []api.Node {
	at, rank := -1, 9
	open := 0
	for i, word := range list {
		open += strings.Count(word, "(") - strings.Count(word, ")")
		if o, ok := ops[word[0]]; ok && open == 0 && ranks[o] <= rank {
			at, rank = i, ranks[o]
		}
	}
	n := len(list)
	switch {
	case at >= 0:
		return slices.Concat([]api.Node{op(ops[list[at][0]])}, value(list[:at]), value(list[at+1:]))
	case n > 1 && list[n-2] == "^":
		return append([]api.Node{hat(int(list[n-1][0] - '0'))}, value(list[:n-2])...)
	case list[0] == "(":
		return value(list[1 : n-1])
	case list[0] == "power":
		return []api.Node{power(list[2], int(list[4][0]-'0'))}
	case list[0] == "0":
		return []api.Node{op(api.FZero)}
	case list[0] == "1":
		return []api.Node{op(api.FOne)}
	}
	return []api.Node{v(list[0])}
}

// split returns the response and the words of the right side.
func split(text string) (string, []string) {
	list := words.FindAllString(text, -1)
	return list[0], list[2:]
}

// one takes the first expression from a list of nodes, and reports whether there is one.
func one(nodes []api.Node) (rest []api.Node, ok bool) {
	if len(nodes) == 0 {
		return nil, false
	}
	n, rest := nodes[0], nodes[1:]
	operands := 0
	switch n.Op {
	case api.FVar:
		ok = isName(n.Name) && n.Num == 0
	case api.FPower:
		ok = isName(n.Name) && n.Num >= 2 && n.Num <= 8
	case api.FOne, api.FZero:
		ok = n.Name == "" && n.Num == 0
	case api.FHat:
		operands, ok = 1, n.Name == "" && n.Num >= 1 && n.Num <= 6
	case api.FPlus, api.FMinus, api.FStar, api.FSlash, api.FColon:
		operands, ok = 2, n.Name == "" && n.Num == 0
	}
	for range operands {
		if ok {
			rest, ok = one(rest)
		}
	}
	return rest, ok
}

// isFormula is P9.2 in its own words.
func isFormula(f api.Formula) bool {
	rest, ok := one(f.Right)
	return isName(f.Response) && ok && len(rest) == 0 && len(f.Right) <= 64
}

// drawnName has up to MaxName bytes.
func drawnName(random *rand.Rand) string {
	if random.IntN(2) == 0 {
		return []string{"a", "b", "c", "y", "power2", "Power", "e1", "x.y_1", strings.Repeat("w", 32)}[random.IntN(9)]
	}
	name := []byte{"abcXYZ"[random.IntN(6)]}
	for range random.IntN(32) {
		name = append(name, "abzAZ019_."[random.IntN(10)])
	}
	return string(name)
}

// drawnNodes is an expression with so many operations with operands.
func drawnNodes(random *rand.Rand, operations int) []api.Node {
	if operations == 0 {
		return [][]api.Node{{v(drawnName(random))}, {v(drawnName(random))}, {power(drawnName(random), 2+random.IntN(7))}, {op(api.FOne)}, {op(api.FZero)}}[random.IntN(5)]
	}
	if random.IntN(4) == 0 {
		return append([]api.Node{hat(1 + random.IntN(6))}, drawnNodes(random, operations-1)...)
	}
	left := random.IntN(operations)
	return slices.Concat([]api.Node{op(ops[signs[random.IntN(5)]])}, drawnNodes(random, left), drawnNodes(random, operations-1-left))
}

// drawnText writes the first expression of nodes with all brackets that it needs, and in some places with more brackets and spaces.
func drawnText(random *rand.Rand, nodes []api.Node) (text string, rest []api.Node) {
	n, rest := nodes[0], nodes[1:]
	space := func() string { return strings.Repeat(" ", max(0, random.IntN(6)-3)) }
	operand := func(rank int) string {
		own := ranks[rest[0].Op]
		text, rest = drawnText(random, rest)
		if own < rank || random.IntN(4) == 0 {
			text = "(" + space() + text + space() + ")"
		}
		return text
	}
	switch n.Op {
	case api.FVar:
		text = n.Name
	case api.FOne:
		text = "1"
	case api.FZero:
		text = "0"
	case api.FPower:
		text = strings.Join([]string{"power", "(", n.Name, ",", fmt.Sprint(n.Num), ")"}, space())
	case api.FHat:
		text = operand(4) + space() + "^" + space() + fmt.Sprint(n.Num)
	default:
		left := operand(ranks[n.Op])
		text = left + space() + signOf(n.Op) + space() + operand(ranks[n.Op]+1)
	}
	if random.IntN(9) == 0 {
		text = "(" + space() + text + space() + ")"
	}
	return text, rest
}

func same(f, g api.Formula) bool {
	return f.Response == g.Response && slices.Equal(f.Right, g.Right)
}

// reads fails the test if a text is not this formula.
func reads(t *testing.T, text, response string, want ...api.Node) {
	t.Helper()
	f, at, e := formula.Parse(text)
	if !same(f, api.Formula{Response: response, Right: want}) || at != 0 || e != api.OK || !formula.Valid(f) {
		t.Errorf("%.80q: %.300v, place %d, error %d, not %s, %.300v", text, f, at, e, response, want)
	}
}

// stops fails the test if a text is not refused with this error at this place.
func stops(t *testing.T, text string, place int, want api.Errno) {
	t.Helper()
	f, at, e := formula.Parse(text)
	if !same(f, api.Formula{}) || at != place || e != want {
		t.Errorf("%.80q: %.80v, place %d, error %d, not place %d, error %d", text, f, at, e, place, want)
	}
}

// agrees fails the test if Parse does not return for a text what the grammar demands, and returns the place and the code of the error that it demands.
func agrees(t *testing.T, text string) (at int, e api.Errno) {
	t.Helper()
	if at, e = expected(text); e != api.OK {
		stops(t, text, at, e)
		return at, e
	}
	response, list := split(text)
	reads(t, text, response, value(list)...)
	return at, e
}

// writes fails the test if a formula does not have this text, or if that is not read back.
func writes(t *testing.T, text, response string, nodes ...api.Node) {
	t.Helper()
	got, e := formula.Format(api.Formula{Response: response, Right: nodes})
	if got != text || e != api.OK {
		t.Errorf("%s, %.300v: %q, error %d, not %q", response, nodes, got, e, text)
	}
	reads(t, text, response, nodes...)
}

// judges fails the test if Valid and Format do not accept or refuse a formula as said.
func judges(t *testing.T, f api.Formula, want bool) {
	t.Helper()
	text, e := formula.Format(f)
	if formula.Valid(f) != want || (e == api.OK) != want || !want && (text != "" || e != api.ErrForm) {
		t.Errorf("%.300v: %v, %q, error %d, not %v", f, formula.Valid(f), text, e, want)
	}
}
