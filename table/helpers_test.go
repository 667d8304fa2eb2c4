package table_test

import (
	"fmt"
	"math/big"
	"math/rand/v2"
	"regexp"
	"slices"
	"strconv"
	"strings"
	"testing"

	"robuststats/api"
	"robuststats/rational"
	"robuststats/table"
)

func number(t *testing.T, text string) api.Rat {
	t.Helper()
	x, ok := rational.Parse(text)
	if !ok {
		t.Fatalf("%.40s is not read", text)
	}
	return x
}

func one() api.Rat { return rational.FromInt(1) }

// invalid are values that are no numbers; the first six are other representations of 0, or of 0 divided by 0.
func invalid() []api.Rat {
	return []api.Rat{
		{Num: api.Int{Neg: true}}, {Den: []uint32{2}}, {Den: []uint32{1}}, {Num: api.Int{Mag: []uint32{0}}}, {Den: []uint32{0}}, {Num: api.Int{Mag: []uint32{0}}, Den: []uint32{0}},
		{Num: api.Int{Mag: []uint32{2}}, Den: []uint32{1}}, {Num: api.Int{Mag: []uint32{2}}, Den: []uint32{4}}, {Num: api.Int{Mag: []uint32{3}}, Den: []uint32{0}}, {Num: api.Int{Mag: []uint32{3, 0}}}, {Num: api.Int{Mag: []uint32{1}}, Den: []uint32{5, 0}},
	}
}

// show writes a table: the number of rows, and for each column its name, its levels if it is a Category, and its cells.
func show(x api.Table) string {
	text := strconv.Itoa(x.Rows)
	for _, c := range x.Columns {
		text += "; " + c.Name
		if c.Kind == api.Category {
			text += " " + strings.Join(c.Levels, "|")
		}
		text += ":"
		for _, cell := range c.Cells {
			switch {
			case cell.Missing:
				text += " ?"
			case c.Kind == api.Number:
				text += " " + rational.Format(cell.Value)
			default:
				text += " " + strconv.Itoa(cell.Level)
			}
		}
	}
	return text
}

// describe writes everything in a table, so that tables with different representations differ, but not those with nil or empty lists.
func describe(x api.Table) string {
	text := strconv.Itoa(x.Rows)
	for _, c := range x.Columns {
		text += fmt.Sprintf("\n%q %d %q %v", c.Name, c.Kind, c.Levels, c.Cells)
	}
	return text
}

// names is P8.1's form of names as a regular expression.
var names = regexp.MustCompile(`\A[a-zA-Z][a-zA-Z0-9_.]{0,31}\z`)

func isName(s string) bool {
	return names.MatchString(s) && s != "power"
}

// isTable is P8.3 in its own words.
func isTable(x api.Table) bool {
	if x.Rows < 0 || x.Rows > 1024 || len(x.Columns) > 32 {
		return false
	}
	seen := map[string]bool{}
	for _, c := range x.Columns {
		if !isName(c.Name) || seen[c.Name] || c.Kind != api.Number && c.Kind != api.Category || len(c.Cells) != x.Rows {
			return false
		}
		seen[c.Name] = true
		levels := map[string]bool{}
		for _, level := range c.Levels {
			levels[level] = true
		}
		if len(levels) != len(c.Levels) || len(levels) > 32 || c.Kind == api.Number && len(levels) > 0 {
			return false
		}
		for _, cell := range c.Cells {
			if !isCell(cell, c.Kind, len(levels)) {
				return false
			}
		}
	}
	return true
}

func isCell(cell api.Cell, kind, levels int) bool {
	empty := len(cell.Value.Num.Mag) == 0 && len(cell.Value.Den) == 0 && !cell.Value.Num.Neg
	if cell.Missing {
		return empty && cell.Level == 0
	}
	if kind == api.Number {
		return isNumber(cell.Value) && cell.Level == 0
	}
	return empty && slices.Contains(slices.Collect(upTo(levels)), cell.Level)
}

func upTo(n int) func(yield func(int) bool) {
	return func(yield func(int) bool) {
		for i := range n {
			if !yield(i) {
				return
			}
		}
	}
}

// isNumber reports whether x is the representation that the value of its parts has in lowest terms.
func isNumber(x api.Rat) bool {
	num, den := valueOf(x.Num.Mag), big.NewInt(1)
	if len(x.Den) > 0 {
		den = valueOf(x.Den)
	}
	if x.Num.Neg {
		num.Neg(num)
	}
	if den.Sign() == 0 {
		return false
	}
	lowest := fromBig(new(big.Rat).SetFrac(num, den))
	return fmt.Sprint(lowest) == fmt.Sprint(x)
}

func valueOf(limbs []uint32) *big.Int {
	v := new(big.Int)
	for i := len(limbs) - 1; i >= 0; i-- {
		v.Lsh(v, 32)
		v.Add(v, new(big.Int).SetUint64(uint64(limbs[i])))
	}
	return v
}

func limbsOf(v *big.Int) []uint32 {
	var limbs []uint32
	for rest := new(big.Int).Abs(v); rest.Sign() > 0; rest.Rsh(rest, 32) {
		limbs = append(limbs, uint32(rest.Uint64()))
	}
	return limbs
}

func fromBig(v *big.Rat) api.Rat {
	x := api.Rat{Num: api.Int{Neg: v.Sign() < 0, Mag: limbsOf(v.Num())}}
	if !v.IsInt() {
		x.Den = limbsOf(v.Denom())
	}
	return x
}

// split makes records of texts with commas.
func split(lines ...string) [][]string {
	var records [][]string
	for _, line := range lines {
		records = append(records, strings.Split(line, ","))
	}
	return records
}

// fields has the names x with the kind Number, g with Category and z with Skip, each followed by a number.
func fields(t *testing.T, list string, missing ...string) []api.Field {
	t.Helper()
	var fs []api.Field
	for _, name := range strings.Fields(list) {
		f := api.Field{Name: name, Missing: missing}
		switch name[0] {
		case 'x':
			f.Kind, f.Unit = api.Number, one()
		case 'g':
			f.Kind = api.Category
		case 'z':
			f.Kind = api.Skip
		default:
			t.Fatalf("no kind for %s", name)
		}
		fs = append(fs, f)
	}
	return fs
}

// builds fails the test if records do not have a table that is shown so.
func builds(t *testing.T, fs []api.Field, records [][]string, want string) api.Table {
	t.Helper()
	x, row, e := table.Build(fs, records)
	if show(x) != want || row != 0 || e != api.OK || !isTable(x) {
		t.Errorf("%v, %.60q: %s, row %d, error %d, not %s", fs, records, show(x), row, e, want)
	}
	return x
}

// stops fails the test if records are not refused with this error in this row.
func stops(t *testing.T, fs []api.Field, records [][]string, row int, want api.Errno) {
	t.Helper()
	x, at, e := table.Build(fs, records)
	if at != row || e != want || describe(x) != "0" {
		t.Errorf("%v, %.60q: %.60s, row %d, error %d, not row %d, error %d", fs, records, describe(x), at, e, row, want)
	}
}

// sample is a table with all kinds of columns, numbers and missing cells.
func sample(t *testing.T) api.Table {
	t.Helper()
	return builds(t, fields(t, "x1 g1 x2 g2", "NA"), split("5/2,a,NA,NA", "NA,b,123456789012345678901234567891/7,NA", "-3/200,NA,0,NA", "0,a,-4294967296,NA", "7,c d,1/4294967296,NA"),
		"5; x1: 5/2 ? -3/200 0 7; g1 a|b|c d: 0 1 ? 0 2; x2: ? 123456789012345678901234567891/7 0 -4294967296 1/4294967296; g2 : ? ? ? ? ?")
}

// drawnTable has up to the given number of rows and columns.
func drawnTable(random *rand.Rand, rows, columns int) api.Table {
	x := api.Table{Rows: random.IntN(rows + 1)}
	for i := range random.IntN(columns + 1) {
		c := api.Column{Name: "c" + strconv.Itoa(i), Kind: 1 + random.IntN(2)}
		if c.Kind == api.Category {
			for j := range random.IntN(4) {
				c.Levels = append(c.Levels, "level "+strconv.Itoa(j))
			}
		}
		for range x.Rows {
			c.Cells = append(c.Cells, drawnCell(random, c))
		}
		x.Columns = append(x.Columns, c)
	}
	return x
}

func drawnCell(random *rand.Rand, c api.Column) api.Cell {
	switch {
	case c.Kind == api.Category && len(c.Levels) == 0 || random.IntN(4) == 0:
		return api.Cell{Missing: true}
	case c.Kind == api.Category:
		return api.Cell{Level: random.IntN(len(c.Levels))}
	}
	return api.Cell{Value: fromBig(drawnNumber(random))}
}

func drawnNumber(random *rand.Rand) *big.Rat {
	size := []int64{3, 1000, 1 << 32, 1 << 60}[random.IntN(4)]
	num, den := big.NewInt(random.Int64N(2*size)-size), big.NewInt(1+random.Int64N(size))
	if random.IntN(4) == 0 {
		num.Mul(num, big.NewInt(1<<62))
	}
	return new(big.Rat).SetFrac(num, den)
}
