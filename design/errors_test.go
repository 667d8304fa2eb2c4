package design_test

import (
	"fmt"
	"math/bits"
	"slices"
	"strconv"
	"strings"
	"testing"

	"robuststats/api"
	"robuststats/design"
	"robuststats/rational"
)

// P12.2: a table or a model that is not valid is ErrForm, whatever else is wrong.
func TestErrForm(t *testing.T) {
	x := data(t, "y x g", "1 5 a", "2 6 b")
	good := model(t, "y ~ x + g")
	tables := []func(*api.Table){
		func(x *api.Table) { x.Rows = 3 }, func(x *api.Table) { x.Rows = -1 }, func(x *api.Table) { x.Columns[2].Name = "x" }, func(x *api.Table) { x.Columns[2].Name = "" }, func(x *api.Table) { x.Columns[1].Kind = api.Skip }, func(x *api.Table) { x.Columns[1].Cells[0].Level = 1 },
		func(x *api.Table) { x.Columns[1].Cells[0].Value.Den = []uint32{1} }, func(x *api.Table) { x.Columns[2].Cells[1].Level = 2 }, func(x *api.Table) { x.Columns[2].Levels[1] = "a" }, func(x *api.Table) { x.Columns = append(x.Columns, make([]api.Column, 30)...) },
	}
	for _, spoil := range tables {
		bad := data(t, "y x g", "1 5 a", "2 6 b")
		spoil(&bad)
		for _, m := range []api.Model{good, model(t, "q ~ x"), {}} {
			fails(t, bad, m, api.Treatment, api.ErrForm)
			fails(t, bad, m, 0, api.ErrForm)
		}
	}
	fx, fg := api.Factor{Name: "x", Power: 1}, api.Factor{Name: "g", Power: 1}
	for _, m := range []api.Model{
		{}, {Response: "power"}, {Response: "y", Terms: [][]api.Factor{{}}}, {Response: "y", Terms: [][]api.Factor{{fx}, {fx}}}, {Response: "y", Terms: [][]api.Factor{{fx, fg}, {fx}}}, {Response: "y", Terms: [][]api.Factor{{fx, fx}}}, {Response: "y", Terms: [][]api.Factor{{fx, fg}, {fg, fx}}},
		{Response: "y", Terms: [][]api.Factor{{{Name: "x", Power: 0}}}}, {Response: "y", Terms: [][]api.Factor{{{Name: "x", Power: 9}}}}, {Response: "y", Terms: [][]api.Factor{{{Name: "", Power: 1}}}},
	} {
		fails(t, x, m, api.Treatment, api.ErrForm)
		fails(t, x, m, 5, api.ErrForm)
	}
}

// P12.2: a coding that is none of the four is ErrRange, also where no category is coded, and before the names are looked up.
func TestErrRange(t *testing.T) {
	x := data(t, "y x g", "1 5 a", "2 6 b")
	for _, coding := range []int{0, 5, -1, -2, 6, 100, 1 << 40, -1 << 62} {
		for _, text := range []string{"y ~ x", "y ~ g", "y ~ 0", "q ~ r", "g ~ power(g, 2)"} {
			fails(t, x, model(t, text), coding, api.ErrRange)
		}
		fails(t, api.Table{}, model(t, "y ~ 1"), coding, api.ErrRange)
	}
}

// P12.2: unknown names are ErrName, before kinds are looked at.
func TestErrName(t *testing.T) {
	x := data(t, "y x g", "? 5 a", "? 6 b")
	for _, text := range []string{"q ~ 1", "Y ~ x", "y ~ q", "y ~ x + q", "y ~ x:q", "y ~ q:x", "g ~ q", "g ~ power(g, 2) + q", "q ~ power(g, 2)", "y ~ power(q, 2)", "y ~ g + x + x:g + x:g:q"} {
		fails(t, x, model(t, text), api.Treatment, api.ErrName)
	}
	fails(t, api.Table{}, model(t, "y ~ 0"), api.Treatment, api.ErrName)
	fails(t, api.Table{Rows: 5}, model(t, "y ~ 0"), api.Treatment, api.ErrName)
}

// P12.2: the response must be a Number, and the power of a category 1, before rows are looked at.
func TestErrType(t *testing.T) {
	for _, x := range []api.Table{data(t, "y x g h", "1 5 a u"), data(t, "y x g h", "? ? ? ?"), data(t, "y x g h"), data(t, "y x g h", slices.Repeat([]string{"1 5 a u"}, 70)...)} {
		for _, text := range []string{"g ~ 1", "g ~ x", "g ~ 0", "g ~ g", "y ~ power(g, 2)", "y ~ x + power(h, 8)", "y ~ x:g + x:power(g, 2)", "y ~ power(x, 2):power(g, 3)", "h ~ power(g, 2)"} {
			fails(t, x, model(t, text), api.SumToZero, api.ErrType)
		}
	}
}

// P12.2: a design has rows. The rows count before the number of the columns.
func TestErrMissing(t *testing.T) {
	many := "y ~ (a + b + c + d)^4"
	for _, x := range []api.Table{data(t, "y a b c d g"), data(t, "y a b c d g", "1 2 3 ? 4 ?", "? 1 2 3 4 a"), data(t, "y a b c d g", "1 2 ? 3 4 ?", "1 ? 2 3 4 ?")} {
		fails(t, x, model(t, many), api.Helmert, api.ErrMissing)
		fails(t, x, model(t, "y ~ b + a + g + c"), api.Helmert, api.ErrMissing)
	}
	// No cell at all: the categories have no levels.
	none := data(t, "y x g h", "1 5 ? ?", "2 6 ? ?")
	for _, text := range []string{"y ~ g", "y ~ g - 1", "y ~ g:h", "y ~ x * g * h"} {
		for _, coding := range codings {
			fails(t, none, model(t, text), coding, api.ErrMissing)
		}
	}
	fails(t, data(t, "y", "?", "?"), model(t, "y ~ 1"), api.Treatment, api.ErrMissing)
	fails(t, data(t, "y", "?"), model(t, "y ~ 0"), api.Treatment, api.ErrMissing)
	builds(t, none, "y ~ x", api.Treatment, "(Intercept) x", "1 5; 1 6")
}

// P12.2: 64 rows are not too many, and only those of the design count.
func TestNumberOfRows(t *testing.T) {
	lines := slices.Repeat([]string{"? 1 a", "1 ? a", "3 4 ?"}, 300)
	for range 64 {
		lines = append(lines, "1 2 a")
	}
	d, e := design.Build(data(t, "y x g", lines...), model(t, "y ~ x + g"), api.Indicator)
	if len(d.X) != 64 || len(d.Y) != 64 || len(d.Rows) != 64 || d.Rows[0] != 900 || d.Rows[63] != 963 || e != api.OK {
		t.Errorf("%s, error %d", show(d), e)
	}
	lines = append(lines, "1 2 a")
	long := data(t, "y x g", lines...)
	fails(t, long, model(t, "y ~ x + g"), api.Indicator, api.ErrLimit)
	fails(t, long, model(t, "y ~ 0"), api.Indicator, api.ErrLimit)
	fails(t, long, model(t, "y ~ x"), api.Indicator, api.ErrLimit)
	fails(t, data(t, "y", slices.Repeat([]string{"1"}, 65)...), model(t, "y ~ 1"), api.Indicator, api.ErrLimit)
}

// levels is a table with one row for each of so many levels of the category g, and with the number x.
func levels(t *testing.T, n int) api.Table {
	t.Helper()
	var lines []string
	for i := range n {
		lines = append(lines, fmt.Sprintf("%d %d level%d", i, i*i, i))
	}
	return data(t, "y x g", lines...)
}

// P12.2: 12 columns are not too many.
func TestNumberOfColumns(t *testing.T) {
	for _, v := range []struct {
		levels  int
		formula string
		coding  int
		columns int
	}{
		{12, "y ~ g", api.Treatment, 12}, {13, "y ~ g", api.Treatment, 13}, {12, "y ~ g - 1", api.Treatment, 12}, {13, "y ~ g - 1", api.Treatment, 13}, {11, "y ~ g", api.Indicator, 12}, {12, "y ~ g", api.Indicator, 13}, {6, "y ~ x * g", api.Helmert, 12}, {7, "y ~ x * g", api.Helmert, 14},
		{11, "y ~ x:g", api.SumToZero, 12}, {12, "y ~ x:g", api.SumToZero, 13}, {12, "y ~ x + x:g - 1", api.SumToZero, 12}, {11, "y ~ x + g", api.SumToZero, 12}, {12, "y ~ x + g", api.SumToZero, 13}, {32, "y ~ g", api.Treatment, 32}, {32, "y ~ x", api.Treatment, 2},
	} {
		x, m := levels(t, v.levels), model(t, v.formula)
		if v.columns > 12 {
			fails(t, x, m, v.coding, api.ErrLimit)
		} else if d, e := design.Build(x, m, v.coding); len(d.Names) != v.columns || len(d.X[0]) != v.columns || e != api.OK {
			t.Errorf("%d levels, %s, coding %d: %q, error %d", v.levels, v.formula, v.coding, d.Names, e)
		}
		agrees(t, x, m, v.coding)
	}
}

// subset returns the factors whose bits are set.
func subset(all []api.Factor, set uint) []api.Factor {
	var term []api.Factor
	for i, f := range all {
		if set>>i&1 == 1 {
			term = append(term, f)
		}
	}
	return term
}

// P12.2 and R8: the columns of the largest models are counted without being built.
func TestLargestModels(t *testing.T) {
	x := api.Table{Rows: 1, Columns: []api.Column{{Name: "y", Kind: api.Number, Cells: make([]api.Cell, 1)}}}
	m := api.Model{Response: "y"}
	var all []api.Factor
	for i := range 12 {
		c := api.Column{Name: "g" + strconv.Itoa(i), Kind: api.Category, Cells: make([]api.Cell, 1)}
		for j := range 32 {
			c.Levels = append(c.Levels, strings.Repeat("long", 20)+strconv.Itoa(j))
		}
		x.Columns, all = append(x.Columns, c), append(all, api.Factor{Name: c.Name, Power: 1})
	}
	for set := uint(0); len(m.Terms) < 32; set++ {
		if bits.OnesCount(set) == 6 {
			m.Terms = append(m.Terms, subset(all, set))
		}
	}
	for _, coding := range codings {
		fails(t, x, m, coding, api.ErrLimit)
		fails(t, x, api.Model{Response: "y", Intercept: true, Terms: m.Terms[:1]}, coding, api.ErrLimit)
	}
	// The factors with one level behind the others have no columns of their own.
	for i := range 10 {
		x.Columns[1+i].Levels = []string{"a", "b"}
		if i > 1 {
			x.Columns[1+i].Levels = []string{"a"}
		}
	}
	thin := api.Model{Response: "y", Terms: [][]api.Factor{{all[0], all[1]}, {all[0], all[1], all[2]}, {all[0], all[1], all[2], all[3]}, {all[0], all[1], all[2], all[3], all[4]}}}
	d, e := design.Build(x, thin, api.Treatment)
	if len(d.Names) != 4 || showRows(d.X) != "1 0 0 0" || e != api.OK {
		t.Errorf("%s, error %d", show(d), e)
	}
}

// P12.2: each error comes before those behind it in the chapter's sentence.
func TestOrderOfErrors(t *testing.T) {
	long := slices.Repeat([]string{"1 5 a"}, 65)
	bad := data(t, "y x g", "1 5 a")
	bad.Columns[1].Cells[0].Value = api.Rat{Num: rational.FromInt(2).Num, Den: []uint32{2}}
	for i, v := range []struct {
		x      api.Table
		m      string
		coding int
		want   api.Errno
	}{
		{bad, "q ~ power(g, 2)", 9, api.ErrForm}, {data(t, "y x g"), "q ~ power(g, 2)", 9, api.ErrRange}, {data(t, "y x g"), "q ~ power(g, 2)", 1, api.ErrName}, {data(t, "y x g"), "g ~ power(g, 2)", 1, api.ErrType}, {data(t, "y x g"), "y ~ g", 1, api.ErrMissing},
		{data(t, "y x g", long...), "q ~ g", 0, api.ErrRange}, {data(t, "y x g", long...), "y ~ g + q", 1, api.ErrName}, {data(t, "y x g", long...), "y ~ x:power(g, 3)", 1, api.ErrType}, {data(t, "y x g", long...), "y ~ g", 1, api.ErrLimit}, {data(t, "y x g", long[1:]...), "y ~ g", 1, api.OK},
	} {
		d, e := design.Build(v.x, model(t, v.m), v.coding)
		if e != v.want || e != api.OK && show(d) != nothing {
			t.Errorf("case %d: %s, error %d, not %d", i, show(d), e, v.want)
		}
	}
}
