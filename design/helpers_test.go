package design_test

import (
	"fmt"
	"math/big"
	"slices"
	"strconv"
	"strings"
	"testing"

	"robuststats/api"
	"robuststats/contrast"
	"robuststats/design"
	"robuststats/formula"
	"robuststats/rational"
	"robuststats/table"
	"robuststats/terms"
)

var codings = []int{api.Treatment, api.SumToZero, api.Helmert, api.Indicator}

func number(t *testing.T, text string) api.Rat {
	t.Helper()
	x, ok := rational.Parse(text)
	if !ok {
		t.Fatalf("%.40s is no number", text)
	}
	return x
}

// numbers reads rows with semicolons between them; "-" is a row without numbers.
func numbers(t *testing.T, text string) [][]api.Rat {
	t.Helper()
	var rows [][]api.Rat
	for line := range strings.SplitSeq(text, ";") {
		var row []api.Rat
		for _, s := range strings.Fields(line) {
			if s != "-" {
				row = append(row, number(t, s))
			}
		}
		if strings.TrimSpace(line) != "" {
			rows = append(rows, row)
		}
	}
	return rows
}

func showList(list []api.Rat) string {
	var text []string
	for _, x := range list {
		text = append(text, rational.Format(x))
	}
	if text == nil {
		return "-"
	}
	return strings.Join(text, " ")
}

// showRows writes what numbers reads.
func showRows(m [][]api.Rat) string {
	var lines []string
	for _, row := range m {
		lines = append(lines, showList(row))
	}
	return strings.Join(lines, "; ")
}

// show writes a design. The names are quoted because a level may be any text.
func show(d api.Design) string {
	return fmt.Sprintf("%q\n%s\ny %s\nrows %v", d.Names, showRows(d.X), showList(d.Y), d.Rows)
}

// nothing is the text of the design that comes with an error.
var nothing = show(api.Design{})

// data is a table of texts: the names in the first line, and "?" for missing cells. Names that begin with g, h or k are those of categories.
func data(t *testing.T, header string, lines ...string) api.Table {
	t.Helper()
	var fields []api.Field
	for _, name := range strings.Fields(header) {
		f := api.Field{Name: name, Kind: api.Number, Missing: []string{"?"}, Unit: rational.FromInt(1)}
		if strings.ContainsAny(name[:1], "ghk") {
			f.Kind = api.Category
		}
		fields = append(fields, f)
	}
	var records [][]string
	for _, line := range lines {
		records = append(records, strings.Fields(line))
	}
	x, row, e := table.Build(fields, records)
	if e != api.OK {
		t.Fatalf("%s: no table, row %d, error %d", header, row, e)
	}
	return x
}

// model reads a formula.
func model(t *testing.T, text string) api.Model {
	t.Helper()
	f, _, e := formula.Parse(text)
	m, err := terms.Expand(f)
	if e != api.OK || err != api.OK {
		t.Fatalf("%q has no model: errors %d and %d", text, e, err)
	}
	return m
}

// builds expects a design with these names and rows of numbers.
func builds(t *testing.T, x api.Table, text string, coding int, names, rows string) api.Design {
	t.Helper()
	d, e := design.Build(x, model(t, text), coding)
	if got := strings.Join(d.Names, " "); got != names || showRows(d.X) != rows || e != api.OK {
		t.Errorf("%s, coding %d: %q, %s, error %d, not %q, %s", text, coding, got, showRows(d.X), e, names, rows)
	}
	return d
}

// fails expects an error, and no design.
func fails(t *testing.T, x api.Table, m api.Model, coding int, want api.Errno) {
	t.Helper()
	if d, e := design.Build(x, m, coding); e != want || show(d) != nothing {
		t.Errorf("%.300s\n%v, coding %d: %.300s, error %d, not error %d", describe(x), m, coding, show(d), e, want)
	}
}

// A reference says what the chapter demands of the design of a valid model on a valid table, in its own words.
type reference struct {
	table  api.Table
	model  api.Model
	coding int
}

// column returns the column with a name, or one without a kind.
func (r reference) column(name string) api.Column {
	for _, c := range r.table.Columns {
		if c.Name == name {
			return c
		}
	}
	return api.Column{}
}

// names returns the names of all variables, that of the response first.
func (r reference) names() []string {
	list := []string{r.model.Response}
	for _, term := range r.model.Terms {
		for _, f := range term {
			list = append(list, f.Name)
		}
	}
	return list
}

// key writes the factors of a term other than the one at an index in alphabetical order, which makes it a set.
func key(term []api.Factor, without int) string {
	var list []string
	for i, f := range term {
		if i != without {
			list = append(list, fmt.Sprint(f.Name, "^", f.Power))
		}
	}
	slices.Sort(list)
	return strings.Join(list, ":")
}

// codingOf returns the coding of the category that is factor i of a term.
func (r reference) codingOf(term []api.Factor, i int) int {
	in := map[string]bool{"": r.model.Intercept}
	for _, other := range r.model.Terms {
		in[key(other, -1)] = true
	}
	if in[key(term, i)] {
		return r.coding
	}
	return api.Indicator
}

// widths returns the numbers of columns of the factors of a term.
func (r reference) widths(term []api.Factor) []int {
	var list []int
	for i, f := range term {
		c := r.column(f.Name)
		switch {
		case c.Kind == api.Number:
			list = append(list, 1)
		case r.codingOf(term, i) == api.Indicator:
			list = append(list, len(c.Levels))
		default:
			list = append(list, len(c.Levels)-1)
		}
	}
	return list
}

// width returns the number of columns.
func (r reference) width() int {
	n := 0
	if r.model.Intercept {
		n = 1
	}
	for _, term := range r.model.Terms {
		product := 1
		for _, w := range r.widths(term) {
			product *= w
		}
		n += product
	}
	return n
}

// rows returns the numbers of the rows without missing cells.
func (r reference) rows() []int {
	var list []int
	for row := range r.table.Rows {
		if !slices.ContainsFunc(r.names(), func(name string) bool { return r.column(name).Cells[row].Missing }) {
			list = append(list, row)
		}
	}
	return list
}

// error is P12.2 but for ErrForm.
func (r reference) error() api.Errno {
	if !slices.Contains(codings, r.coding) {
		return api.ErrRange
	}
	for _, name := range r.names() {
		if r.column(name).Kind == 0 {
			return api.ErrName
		}
	}
	wrong := r.column(r.model.Response).Kind != api.Number
	for _, term := range r.model.Terms {
		for _, f := range term {
			wrong = wrong || f.Power != 1 && r.column(f.Name).Kind == api.Category
		}
	}
	rows := len(r.rows())
	switch {
	case wrong:
		return api.ErrType
	case rows == 0:
		return api.ErrMissing
	case rows > 64 || r.width() > 12:
		return api.ErrLimit
	}
	return api.OK
}

// factor returns the name of column j of factor i of a term, and its number in a row.
func (r reference) factor(term []api.Factor, i, j, row int) (string, *big.Rat) {
	f := term[i]
	c := r.column(f.Name)
	cell := c.Cells[row]
	if c.Kind == api.Category {
		coding := r.codingOf(term, i)
		names, _ := contrast.Names(coding, c.Levels)
		m, _ := contrast.Matrix(coding, len(c.Levels))
		return f.Name + names[j], toBig(m[cell.Level][j])
	}
	name, v := f.Name, toBig(cell.Value)
	n := big.NewInt(int64(f.Power))
	power := new(big.Rat).SetFrac(new(big.Int).Exp(v.Num(), n, nil), new(big.Int).Exp(v.Denom(), n, nil))
	if f.Power != 1 {
		name += "^" + strconv.Itoa(f.Power)
	}
	return name, power
}

// term returns the name of a column of a term, and its number in a row. The number of the column has a digit for each factor, that of the first one being the least significant.
func (r reference) term(term []api.Factor, column, row int) (string, *big.Rat) {
	var names []string
	product := big.NewRat(1, 1)
	for i, w := range r.widths(term) {
		name, v := r.factor(term, i, column%w, row)
		names = append(names, name)
		product.Mul(product, v)
		column /= w
	}
	return strings.Join(names, ":"), product
}

// design is P12.1, as the text of the design.
func (r reference) design() string {
	d := api.Design{Rows: r.rows()}
	for _, row := range d.Rows {
		d.Names = nil
		var numbers []api.Rat
		if r.model.Intercept {
			d.Names, numbers = append(d.Names, "(Intercept)"), append(numbers, rational.FromInt(1))
		}
		for _, term := range r.model.Terms {
			width := 1
			for _, w := range r.widths(term) {
				width *= w
			}
			for j := range width {
				name, v := r.term(term, j, row)
				d.Names, numbers = append(d.Names, name), append(numbers, fromBig(v))
			}
		}
		d.X = append(d.X, numbers)
		d.Y = append(d.Y, r.column(r.model.Response).Cells[row].Value)
	}
	return show(d)
}

// agrees compares a design, or the error, with the reference, and returns the error.
func agrees(t *testing.T, x api.Table, m api.Model, coding int) api.Errno {
	t.Helper()
	r := reference{x, m, coding}
	want, text := r.error(), nothing
	if want == api.OK {
		text = r.design()
	}
	d, e := design.Build(x, m, coding)
	if show(d) != text || e != want {
		t.Errorf("%s\n%v, coding %d: error %d\n%s\nnot error %d\n%s", describe(x), m, coding, e, show(d), want, text)
	}
	if !areValid(append(d.X, d.Y)) {
		t.Errorf("%s\n%v, coding %d: a number is not valid", describe(x), m, coding)
	}
	return want
}

func areValid(m [][]api.Rat) bool {
	return !slices.ContainsFunc(slices.Concat(m...), func(x api.Rat) bool { return !rational.Valid(x) })
}

// describe writes everything in a table.
func describe(x api.Table) string {
	text := strconv.Itoa(x.Rows)
	for _, c := range x.Columns {
		text += fmt.Sprintf("\n%q %d %q %v", c.Name, c.Kind, c.Levels, c.Cells)
	}
	return text
}

// toBig returns what x stands for.
func toBig(x api.Rat) *big.Rat {
	v, _ := new(big.Rat).SetString(rational.Format(x))
	return v
}

// fromBig returns the one valid representation of a value.
func fromBig(v *big.Rat) api.Rat {
	x := api.Rat{Num: api.Int{Neg: v.Sign() < 0, Mag: limbsOf(v.Num())}}
	if !v.IsInt() {
		x.Den = limbsOf(v.Denom())
	}
	return x
}

func limbsOf(v *big.Int) []uint32 {
	var limbs []uint32
	for rest := new(big.Int).Abs(v); rest.Sign() > 0; rest.Rsh(rest, 32) {
		limbs = append(limbs, uint32(rest.Uint64()))
	}
	return limbs
}
