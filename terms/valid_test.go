package terms_test

import (
	"math"
	"math/rand/v2"
	"regexp"
	"slices"
	"strconv"
	"strings"
	"testing"

	"robuststats/api"
	"robuststats/terms"
)

// term is the list of the factors of a text such as "a:b^2".
func term(text string) []api.Factor {
	var list []api.Factor
	for _, s := range strings.Split(text, ":") {
		name, exponent, ok := strings.Cut(s, "^")
		f := api.Factor{Name: name, Power: 1}
		if ok {
			f.Power, _ = strconv.Atoi(exponent)
		}
		list = append(list, f)
	}
	return list
}

// model has the terms of a text, with spaces in between.
func model(text string) api.Model {
	m := api.Model{Response: "y"}
	for _, s := range strings.Fields(text) {
		m.Terms = append(m.Terms, term(s))
	}
	return m
}

// judges expects a judgement of Valid, with and without an intercept.
func judges(t *testing.T, m api.Model, want bool) {
	t.Helper()
	for _, m.Intercept = range []bool{false, true} {
		if got := terms.Valid(m); got != want {
			t.Errorf("%.300v: %v, not %v", m, got, want)
		}
	}
}

// P10.4: the response is a name.
func TestValidResponse(t *testing.T) {
	for s, want := range map[string]bool{
		"y": true, "a": true, "Y_.9": true, strings.Repeat("w", 32): true, "powers": true,
		"": false, "power": false, strings.Repeat("w", 33): false, "1": false, "_y": false, ".y": false, "y ": false, " y": false, "y+z": false, "\u00e9": false, "y\x00": false, strings.Repeat("w", 1<<20): false,
	} {
		for _, m := range []api.Model{model(""), model("a"), model("a b a:b")} {
			m.Response = s
			judges(t, m, want)
		}
	}
}

// P10.4: the number of terms.
func TestValidTerms(t *testing.T) {
	for _, n := range []int{0, 1, 2, 31, 32, 33, 64, 1000} {
		m := api.Model{Response: "y"}
		for i := range n {
			m.Terms = append(m.Terms, term("a"+strconv.Itoa(i)))
		}
		judges(t, m, n <= 32)
	}
	judges(t, api.Model{Response: "y", Terms: make([][]api.Factor, 1<<20)}, false)
}

// P10.4: the number of factors of a term.
func TestValidNumberOfFactors(t *testing.T) {
	all := term("a:b:c:d:e:f:g:h")
	for n := range len(all) + 1 {
		want := n >= 1 && n <= 6
		judges(t, api.Model{Response: "y", Terms: [][]api.Factor{all[:n]}}, want)
		judges(t, api.Model{Response: "y", Terms: [][]api.Factor{term("z"), all[:n]}}, want)
		judges(t, api.Model{Response: "y", Terms: [][]api.Factor{all[:n], term("p:q:r:s:t:u")}}, want)
	}
	judges(t, api.Model{Response: "y", Terms: [][]api.Factor{nil}}, false)
	judges(t, api.Model{Response: "y", Terms: [][]api.Factor{make([]api.Factor, 1<<20)}}, false)
}

// P10.4: terms stand in the order of their numbers of factors.
func TestValidOrder(t *testing.T) {
	judges(t, model("a b:c"), true)
	judges(t, model("b:c a"), false)
	judges(t, model("c b a b:a c:a a:b:c"), true)
	judges(t, model("a b:c d"), false)
	judges(t, model("a a:b:c b:c"), false)
	judges(t, model("a:b c:d:e:f e:f:g"), false)
	judges(t, model("a:b e:f:g c:d:e:f"), true)
}

// P10.4: factors have a name and a Power in its range.
func TestValidFactors(t *testing.T) {
	for _, power := range []int{math.MinInt, -1, 0, 1, 2, 3, 4, 5, 6, 7, 8, 9, 10, 256, 1 << 32, 1<<32 + 1, math.MaxInt} {
		for _, name := range []string{"a", "", "power", "1", "a b", strings.Repeat("w", 32), strings.Repeat("w", 33), "a^2", "caf\u00e9"} {
			want := power >= 1 && power <= 8 && (name == "a" || name == strings.Repeat("w", 32))
			f := api.Factor{Name: name, Power: power}
			judges(t, api.Model{Response: "y", Terms: [][]api.Factor{{f}}}, want)
			judges(t, api.Model{Response: "y", Terms: [][]api.Factor{term("z"), {f, {Name: "y", Power: 1}}}}, want)
			judges(t, api.Model{Response: "y", Terms: [][]api.Factor{term("z"), {{Name: "y", Power: 1}, f}}}, want)
		}
	}
}

// P10.4: no term contains a factor twice; the same name with another power is another factor.
func TestValidRepeatedFactors(t *testing.T) {
	judges(t, model("a:a"), false)
	judges(t, model("a:b:a"), false)
	judges(t, model("a:b:b"), false)
	judges(t, model("x^2:x^2"), false)
	judges(t, model("a b:c:d:e:f:b"), false)
	judges(t, model("x:x^2"), true)
	judges(t, model("x^8:x^7:x:x^2:x^3:x^4"), true)
	judges(t, model("x:X"), true)
	judges(t, model("y"), true)
}

// P10.4: no two terms have the same set of factors, in whatever order.
func TestValidRepeatedTerms(t *testing.T) {
	judges(t, model("a a"), false)
	judges(t, model("a b a"), false)
	judges(t, model("a:b a:b"), false)
	judges(t, model("a:b b:a"), false)
	judges(t, model("a:b c:d b:a"), false)
	judges(t, model("a b:c:d c:d:b"), false)
	judges(t, model("a:b:c:d:e:f f:e:d:c:b:a"), false)
	judges(t, model("x:x^2 x^2:x"), false)
	judges(t, model("x x^2"), true)
	judges(t, model("x x^2 x^2"), false)
	judges(t, model("a b a:b"), true)
	judges(t, model("a:b a:c b:c"), true)
	judges(t, model("a:x a:x^2"), true)
	judges(t, model("a:b:c a:b:d"), true)
	judges(t, model("a:b:c:d:e:f f:e:d:c:b:g"), true)
}

var isName = regexp.MustCompile(`\A[a-zA-Z][a-zA-Z0-9_.]{0,31}\z`)

// isModel is P10.4 in its own words.
func isModel(m api.Model) bool {
	names, sizes, sets := []string{m.Response}, []int{}, map[string]int{}
	ok := len(m.Terms) <= 32
	for _, t := range m.Terms {
		factors := map[api.Factor]int{}
		for _, f := range t {
			factors[f]++
			names = append(names, f.Name)
			ok = ok && factors[f] == 1 && f.Power >= 1 && f.Power <= 8
		}
		key := strings.Split(showTerm(t), ":")
		slices.Sort(key)
		sets[strings.Join(key, ":")]++
		ok = ok && sets[strings.Join(key, ":")] == 1 && len(t) >= 1 && len(t) <= 6
		sizes = append(sizes, len(t))
	}
	for _, s := range names {
		ok = ok && isName.MatchString(s) && s != "power"
	}
	return ok && slices.IsSorted(sizes)
}

// drawnModel is a valid model in about half of the cases.
func drawnModel(random *rand.Rand) api.Model {
	m := api.Model{Response: "y", Intercept: random.IntN(2) == 0}
	for range random.IntN(6) {
		var t []api.Factor
		for range 1 + random.IntN(3) {
			t = append(t, api.Factor{Name: string(rune('a' + random.IntN(6))), Power: 1 + random.IntN(2)})
		}
		m.Terms = append(m.Terms, t)
	}
	if random.IntN(4) > 0 {
		slices.SortStableFunc(m.Terms, func(s, t []api.Factor) int { return len(s) - len(t) })
	}
	if n := len(m.Terms); n > 0 && random.IntN(4) == 0 {
		f := &m.Terms[random.IntN(n)][0]
		*f = []api.Factor{{Name: "", Power: 1}, {Name: "power", Power: 2}, {Name: "a", Power: 0}, {Name: "a", Power: 9}, {Name: "a", Power: 8}, {Name: "b.1", Power: 3}}[random.IntN(6)]
	}
	return m
}

// P10.4: drawn models.
func TestValidDrawn(t *testing.T) {
	random := rand.New(rand.NewPCG(10, 4))
	accepted := 0
	for range 20000 {
		m := drawnModel(random)
		judges(t, m, isModel(m))
		if isModel(m) {
			accepted++
		}
	}
	if accepted < 5000 || accepted > 15000 {
		t.Errorf("%d of 20000 are accepted", accepted)
	}
}
