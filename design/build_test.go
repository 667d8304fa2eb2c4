package design_test

import (
	"fmt"
	"slices"
	"strconv"
	"strings"
	"testing"

	"robuststats/api"
	"robuststats/design"
	"robuststats/table"
)

// sample has missing cells in y, x and g.
func sample(t *testing.T) api.Table {
	t.Helper()
	return data(t, "y x z g h", "10 2 -1/2 a u", "11 3 6 b v", "? 4 7 a w", "12 ? 8 b u", "13 5 0 a v", "14 6 1 ? w", "15 -7 5 b w")
}

// P12.1: the rows are those where the response and the variables of the model are not missing, and other cells do not count.
func TestRows(t *testing.T) {
	x := sample(t)
	for _, v := range []struct{ formula, rows, y string }{
		{"y ~ 1", "[0 1 3 4 5 6]", "10 11 12 13 14 15"}, {"y ~ 0", "[0 1 3 4 5 6]", "10 11 12 13 14 15"}, {"y ~ x", "[0 1 4 5 6]", "10 11 13 14 15"}, {"y ~ g", "[0 1 3 4 6]", "10 11 12 13 15"}, {"y ~ z + h", "[0 1 3 4 5 6]", "10 11 12 13 14 15"},
		{"y ~ z + x:g", "[0 1 4 6]", "10 11 13 15"}, {"y ~ power(x, 3) - 1", "[0 1 4 5 6]", "10 11 13 14 15"}, {"x ~ y", "[0 1 4 5 6]", "2 3 5 6 -7"}, {"z ~ 1", "[0 1 2 3 4 5 6]", "-1/2 6 7 8 0 1 5"}, {"z ~ g", "[0 1 2 3 4 6]", "-1/2 6 7 8 0 5"},
	} {
		d, e := design.Build(x, model(t, v.formula), api.Treatment)
		if fmt.Sprint(d.Rows) != v.rows || showList(d.Y) != v.y || len(d.X) != len(d.Rows) || e != api.OK {
			t.Errorf("%s: %s, error %d", v.formula, show(d), e)
		}
	}
}

// P12.1: the column of ones is the first one, and a model without terms has rows without numbers.
func TestIntercept(t *testing.T) {
	x := data(t, "y x", "1 5", "2 6", "3 7")
	builds(t, x, "y ~ 1", api.Treatment, "(Intercept)", "1; 1; 1")
	builds(t, x, "y ~ x", api.Helmert, "(Intercept) x", "1 5; 1 6; 1 7")
	builds(t, x, "y ~ x - 1", api.Helmert, "x", "5; 6; 7")
	if d := builds(t, x, "y ~ 0", api.Indicator, "", "-; -; -"); len(d.X) != 3 || showList(d.Y) != "1 2 3" {
		t.Errorf("%s", show(d))
	}
}

// P12.1: a Number has one column, the values raised to the power.
func TestNumbers(t *testing.T) {
	x := data(t, "y x z", "1 -2/3 0", "2 3 1/10", "3 0 -1")
	builds(t, x, "y ~ x + z", api.Treatment, "(Intercept) x z", "1 -2/3 0; 1 3 1/10; 1 0 -1")
	builds(t, x, "y ~ power(x, 2) + power(x, 3) + 0", api.Treatment, "x^2 x^3", "4/9 -8/27; 9 27; 0 0")
	builds(t, x, "y ~ power(z, 8) + z + 0", api.Treatment, "z^8 z", "0 0; 1/100000000 1/10; 1 -1")
	builds(t, x, "y ~ x:z:power(z, 2) - 1", api.Treatment, "x:z:z^2", "0; 3/1000; 0")
	builds(t, x, "y ~ y + power(y, 2)", api.Treatment, "(Intercept) y y^2", "1 1 1; 1 2 4; 1 3 9")
	long := data(t, "y x", "1 123456789012345678901234567890/97")
	builds(t, long, "y ~ power(x, 2) - 1", api.Treatment, "x^2", "15241578753238836750495351562536198787501905199875019052100/9409")
}

// P12.1: names of columns may be equal, because a name of a variable may contain dots, and a level any text.
func TestNames(t *testing.T) {
	x := api.Table{Rows: 2}
	for _, name := range []string{"y", "z.1", "z", "h", "g_"} {
		c := api.Column{Name: name, Kind: api.Number, Cells: []api.Cell{{Value: number(t, "2")}, {Value: number(t, "3")}}}
		if name == "z" || name == "h" {
			c = api.Column{Name: name, Kind: api.Category, Levels: []string{"", "b:h==c"}, Cells: []api.Cell{{Level: 1}, {}}}
		}
		x.Columns = append(x.Columns, c)
	}
	builds(t, x, "y ~ z.1 + z", api.SumToZero, "(Intercept) z.1 z.1", "1 2 -1; 1 3 1")
	builds(t, x, "y ~ z + z:h - 1", api.Treatment, "z= z=b:h==c z=:h=b:h==c z=b:h==c:h=b:h==c", "0 1 0 1; 1 0 0 0")
	builds(t, x, "y ~ g_ + power(g_, 2)", api.SumToZero, "(Intercept) g_ g_^2", "1 2 4; 1 3 9")
}

// P12.1: the codings of a category behind an intercept, and without one.
func TestCategories(t *testing.T) {
	x := data(t, "y g", "1 b", "2 a", "3 c", "4 a")
	for _, v := range []struct {
		coding      int
		names, rows string
	}{
		{api.Treatment, "(Intercept) g=a g=c", "1 0 0; 1 1 0; 1 0 1; 1 1 0"}, {api.SumToZero, "(Intercept) g.1 g.2", "1 1 0; 1 0 1; 1 -1 -1; 1 0 1"},
		{api.Helmert, "(Intercept) g.1 g.2", "1 -1 -1; 1 1 -1; 1 0 2; 1 1 -1"}, {api.Indicator, "(Intercept) g=b g=a g=c", "1 1 0 0; 1 0 1 0; 1 0 0 1; 1 0 1 0"},
	} {
		builds(t, x, "y ~ g", v.coding, v.names, v.rows)
		builds(t, x, "y ~ g - 1", v.coding, "g=b g=a g=c", "1 0 0; 0 1 0; 0 0 1; 0 1 0")
	}
}

// P12.1: all levels of the table have columns, also those that no row of the design has.
func TestUnusedLevels(t *testing.T) {
	x := data(t, "y x g", "? 1 a", "2 2 b", "3 ? c", "4 4 d")
	builds(t, x, "y ~ g", api.Treatment, "(Intercept) g=b g=c g=d", "1 1 0 0; 1 0 1 0; 1 0 0 1")
	builds(t, x, "y ~ x + g", api.SumToZero, "(Intercept) x g.1 g.2 g.3", "1 2 0 1 0; 1 4 -1 -1 -1")
	builds(t, x, "y ~ x:g - 1", api.Helmert, "x:g=a x:g=b x:g=c x:g=d", "0 2 0 0; 0 0 0 4")
}

// P12.1: a category with one level has one indicator, and no column in another coding; the products with it have none either.
func TestOneLevel(t *testing.T) {
	x := data(t, "y x g h", "1 5 a u", "2 6 a v")
	for _, coding := range codings[:3] {
		builds(t, x, "y ~ g", coding, "(Intercept)", "1; 1")
		builds(t, x, "y ~ g - 1", coding, "g=a", "1; 1")
		builds(t, x, "y ~ x * g", coding, "(Intercept) x", "1 5; 1 6")
		builds(t, x, "y ~ x + x:g - 1", coding, "x", "5; 6")
		builds(t, x, "y ~ g:x", coding, "(Intercept) g=a:x", "1 5; 1 6")
		builds(t, x, "y ~ h:g + h - 1", coding, "h=u h=v", "1 0; 0 1")
	}
	builds(t, x, "y ~ x * g", api.Indicator, "(Intercept) x g=a x:g=a", "1 5 1 5; 1 6 1 6")
}

// P12.1: a category is coded by the coding if the term without it is in the model, whatever the order of the factors.
func TestCodingInTerms(t *testing.T) {
	x := data(t, "y x g h", "1 5 a u", "2 6 b v", "3 7 b w")
	for _, v := range []struct{ formula, names string }{
		{"y ~ g + h - 1", "g=a g=b h=u h=v h=w"}, {"y ~ g + h", "(Intercept) g=b h=v h=w"}, {"y ~ x + g - 1", "x g=a g=b"},
		{"y ~ x:g", "(Intercept) x:g=a x:g=b"}, {"y ~ x + x:g", "(Intercept) x x:g=b"}, {"y ~ x + x:g - 1", "x x:g=b"}, {"y ~ g + g:x", "(Intercept) g=b g=a:x g=b:x"}, {"y ~ power(x, 2) + x:g", "(Intercept) x^2 x:g=a x:g=b"}, {"y ~ power(x, 2) + g:power(x, 2)", "(Intercept) x^2 x^2:g=b"},
		{"y ~ g:h - 1", "g=a:h=u g=b:h=u g=a:h=v g=b:h=v g=a:h=w g=b:h=w"}, {"y ~ g:h", "(Intercept) g=a:h=u g=b:h=u g=a:h=v g=b:h=v g=a:h=w g=b:h=w"}, {"y ~ g * h", "(Intercept) g=b h=v h=w g=b:h=v g=b:h=w"}, {"y ~ g + g:h", "(Intercept) g=b g=a:h=v g=b:h=v g=a:h=w g=b:h=w"}, {"y ~ h + g:h - 1", "h=u h=v h=w h=u:g=b h=v:g=b h=w:g=b"},
		{"y ~ x:h:g + g:x", "(Intercept) x:g=a x:g=b x:h=v:g=a x:h=w:g=a x:h=v:g=b x:h=w:g=b"}, {"y ~ g:h + x:g:h - 1", "g=a:h=u g=b:h=u g=a:h=v g=b:h=v g=a:h=w g=b:h=w g=a:h=u:x g=b:h=u:x g=a:h=v:x g=b:h=v:x g=a:h=w:x g=b:h=w:x"},
	} {
		d, e := design.Build(x, model(t, v.formula), api.Treatment)
		if got := strings.Join(d.Names, " "); got != v.names || e != api.OK {
			t.Errorf("%s: %q, error %d, not %q", v.formula, got, e, v.names)
		}
	}
}

// P12.1: the factors of a term of the model may stand in another order than in other terms.
func TestOrderOfFactors(t *testing.T) {
	x := data(t, "y g h k", "1 a u r", "2 b v s", "3 b u r")
	g, h, k := api.Factor{Name: "g", Power: 1}, api.Factor{Name: "h", Power: 1}, api.Factor{Name: "k", Power: 1}
	m := api.Model{Response: "y", Terms: [][]api.Factor{{h, g}, {g, h, k}}}
	d, e := design.Build(x, m, api.Treatment)
	if got := strings.Join(d.Names, " "); got != "h=u:g=a h=v:g=a h=u:g=b h=v:g=b g=a:h=u:k=s g=b:h=u:k=s g=a:h=v:k=s g=b:h=v:k=s" || showRows(d.X) != "1 0 0 0 0 0 0 0; 0 0 0 1 0 0 0 1; 0 0 1 0 0 0 0 0" || e != api.OK {
		t.Errorf("%s, error %d", show(d), e)
	}
}

// P12.1: the column of the first factor changes fastest, and that of the last one slowest.
func TestProducts(t *testing.T) {
	x := data(t, "y x g h k", "1 2 a u r", "2 3 b v s", "3 -5 a v s")
	builds(t, x, "y ~ g:h:k - 1", api.Treatment, "g=a:h=u:k=r g=b:h=u:k=r g=a:h=v:k=r g=b:h=v:k=r g=a:h=u:k=s g=b:h=u:k=s g=a:h=v:k=s g=b:h=v:k=s", "1 0 0 0 0 0 0 0; 0 0 0 0 0 0 0 1; 0 0 0 0 0 0 1 0")
	builds(t, x, "y ~ k:x:g - 1", api.Treatment, "k=r:x:g=a k=s:x:g=a k=r:x:g=b k=s:x:g=b", "2 0 0 0; 0 0 0 3; 0 -5 0 0")
	builds(t, x, "y ~ g * h", api.SumToZero, "(Intercept) g.1 h.1 g.1:h.1", "1 1 1 1; 1 -1 -1 1; 1 1 -1 -1")
	builds(t, x, "y ~ x * g", api.Helmert, "(Intercept) x g.1 x:g.1", "1 2 -1 -2; 1 3 1 3; 1 -5 -1 5")
}

// The chapter's examples.
func TestExamples(t *testing.T) {
	x := data(t, "y x g", "1 5 a", "2 6 b")
	builds(t, x, "y ~ g", api.Treatment, "(Intercept) g=b", "1 0; 1 1")
	builds(t, x, "y ~ g - 1", api.Treatment, "g=a g=b", "1 0; 0 1")
	builds(t, x, "y ~ x * g", api.Treatment, "(Intercept) x g=b x:g=b", "1 5 0 0; 1 6 1 6")
}

// P12.1: a term with six factors, and powers up to 8.
func TestLongTerms(t *testing.T) {
	x := data(t, "y a b c d e g", "1 2 -1 1/2 3 2 u", "2 1 2 3 4 0 v")
	builds(t, x, "y ~ a:power(b, 7):c:d:power(e, 8):g - 1", api.Helmert, "a:b^7:c:d:e^8:g=u a:b^7:c:d:e^8:g=v", "-768 0; 0 0")
	var names []string
	for i := range 12 {
		names = append(names, "a^"+strconv.Itoa(i+1))
	}
	builds(t, x, "y ~ "+strings.Join([]string{"a", "power(a, 2)", "power(a, 3)", "power(a, 4)", "power(a, 5)", "power(a, 6)", "power(a, 7)", "power(a, 8)"}, " + "), api.Helmert, "(Intercept) a "+strings.Join(names[1:8], " "), "1 2 4 8 16 32 64 128 256; 1 1 1 1 1 1 1 1 1")
}

// P12.1 and P12.2: drawn models on drawn tables, compared with the chapter's words.
func TestDrawnDesigns(t *testing.T) {
	seen := map[api.Errno]int{}
	wide := 0
	for _, a := range drawn(1, 20000) {
		if !table.Valid(a.table) {
			t.Fatalf("%s is no table", describe(a.table))
		}
		seen[agrees(t, a.table, a.model, a.coding)]++
		if d, _ := design.Build(a.table, a.model, a.coding); slices.ContainsFunc(d.Names, func(name string) bool { return strings.Count(name, ":") > 1 }) {
			wide++
		}
	}
	for _, e := range []api.Errno{api.OK, api.ErrRange, api.ErrName, api.ErrType, api.ErrMissing, api.ErrLimit} {
		if seen[e] < 200 {
			t.Errorf("error %d: only %d", e, seen[e])
		}
	}
	if seen[api.OK] < 8000 || wide < 1000 {
		t.Errorf("only %d designs, %d of them with several factors", seen[api.OK], wide)
	}
}
