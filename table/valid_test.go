package table_test

import (
	"math"
	"slices"
	"strconv"
	"strings"
	"testing"

	"robuststats/api"
	"robuststats/table"
)

// changed returns the sample after each change.
func changed(t *testing.T, changes []func(x *api.Table)) []api.Table {
	t.Helper()
	var tables []api.Table
	for _, change := range changes {
		x := sample(t)
		change(&x)
		tables = append(tables, x)
	}
	return tables
}

// column returns a function that changes a column.
func column(at int, change func(c *api.Column)) func(x *api.Table) {
	return func(x *api.Table) { change(&x.Columns[at]) }
}

// cell returns a function that puts a cell into a column.
func cell(at, row int, value api.Cell) func(x *api.Table) {
	return column(at, func(c *api.Column) { c.Cells[row] = value })
}

// broken are tables that miss each single demand of P8.3.
func broken(t *testing.T) []api.Table {
	t.Helper()
	changes := []func(x *api.Table){
		func(x *api.Table) { x.Rows = -1 }, func(x *api.Table) { x.Rows = 4 }, func(x *api.Table) { x.Rows = 6 }, func(x *api.Table) { x.Rows = 0 }, func(x *api.Table) { x.Rows = math.MaxInt }, func(x *api.Table) { x.Rows = math.MinInt },
		func(x *api.Table) { *x = api.Table{Rows: api.MaxRecords + 1} }, func(x *api.Table) { *x = api.Table{Rows: -1} }, func(x *api.Table) { *x = api.Table{Rows: math.MaxInt} }, func(x *api.Table) { *x = api.Table{Rows: math.MinInt} },
		func(x *api.Table) { *x = wide(api.MaxFields + 1) }, func(x *api.Table) { *x = tall(t, api.MaxRecords+1) },
		func(x *api.Table) { x.Columns = append(x.Columns, x.Columns[3]) }, func(x *api.Table) { x.Columns = append(x.Columns, api.Column{Name: "more", Kind: api.Number}) }, func(x *api.Table) { x.Columns[3] = api.Column{} },
	}
	for at := range 4 {
		for _, name := range []string{"", "power", "1x", "x ", "x:y", strings.Repeat("n", api.MaxName+1), []string{"g1", "x1"}[at%2]} {
			changes = append(changes, column(at, func(c *api.Column) { c.Name = name }))
		}
		for _, kind := range []int{0, api.Skip, 4, -1, math.MaxInt, math.MinInt} {
			changes = append(changes, column(at, func(c *api.Column) { c.Kind = kind }))
		}
		changes = append(changes, column(at, func(c *api.Column) { c.Cells = c.Cells[:4] }), column(at, func(c *api.Column) { c.Cells = append(c.Cells, api.Cell{Missing: true}) }), column(at, func(c *api.Column) { c.Cells = nil }))
		for _, levels := range [][]string{{"a", "b", "c", "a"}, {"", "", "b"}, manyNames(api.MaxLevels + 1)} {
			changes = append(changes, column(at, func(c *api.Column) { c.Levels = levels }))
		}
	}
	changes = append(changes, column(0, func(c *api.Column) { c.Kind = api.Category }), column(1, func(c *api.Column) { c.Kind = api.Number }), column(2, func(c *api.Column) { c.Kind = api.Category }))
	changes = append(changes, column(0, func(c *api.Column) { c.Levels = []string{"a"} }), column(2, func(c *api.Column) { c.Levels = []string{""} }), column(1, func(c *api.Column) { c.Levels = c.Levels[:2] }), column(1, func(c *api.Column) { c.Levels = nil }))
	return changed(t, append(changes, brokenCells()...))
}

// brokenCells put cells into the columns that do not have their form, in the first and in the last row.
func brokenCells() []func(x *api.Table) {
	var changes []func(x *api.Table)
	for _, row := range []int{0, 4} {
		for at := range 4 {
			for _, missing := range []bool{false, true} {
				for _, value := range invalid() {
					changes = append(changes, cell(at, row, api.Cell{Missing: missing, Value: value}))
				}
				for _, level := range []int{-1, math.MinInt, math.MaxInt, 3, 4} {
					changes = append(changes, cell(at, row, api.Cell{Missing: missing, Level: level}))
				}
			}
			changes = append(changes, cell(at, row, api.Cell{Missing: true, Value: one()}), cell(at, row, api.Cell{Missing: true, Level: 1}))
		}
		changes = append(changes, cell(0, row, api.Cell{Level: 1}), cell(2, row, api.Cell{Value: one(), Level: 2}), cell(1, row, api.Cell{Value: one()}), cell(1, row, api.Cell{Value: one(), Level: 1}), cell(3, row, api.Cell{}))
	}
	return changes
}

// wide is a table without rows.
func wide(columns int) api.Table {
	var x api.Table
	for i, name := range manyNames(columns) {
		x.Columns = append(x.Columns, api.Column{Name: name, Kind: 1 + i%2})
	}
	return x
}

// tall is a table of a Number and a Category with all levels.
func tall(t *testing.T, rows int) api.Table {
	t.Helper()
	x := api.Table{Rows: rows, Columns: []api.Column{{Name: "x", Kind: api.Number}, {Name: "g", Kind: api.Category, Levels: manyNames(api.MaxLevels)}}}
	for row := range rows {
		x.Columns[0].Cells = append(x.Columns[0].Cells, api.Cell{Value: number(t, strconv.Itoa(row)+"/7")})
		x.Columns[1].Cells = append(x.Columns[1].Cells, api.Cell{Level: row % api.MaxLevels})
	}
	return x
}

// whole are tables that are Valid.
func whole(t *testing.T) []api.Table {
	t.Helper()
	big := number(t, strings.Repeat("7", api.MaxDigits)+"/"+strings.Repeat("5", api.MaxDigits-1)+"4")
	return append(changed(t, []func(x *api.Table){
		func(x *api.Table) {}, func(x *api.Table) { x.Columns = nil }, func(x *api.Table) { x.Columns = x.Columns[1:3] }, func(x *api.Table) { *x = api.Table{} }, func(x *api.Table) { *x = api.Table{Rows: api.MaxRecords, Columns: []api.Column{}} }, func(x *api.Table) { slices.Reverse(x.Columns) },
		column(0, func(c *api.Column) { c.Name = strings.Repeat("n", api.MaxName) }), column(1, func(c *api.Column) { c.Name = "Power_2." }), column(0, func(c *api.Column) { c.Name = "G1" }), column(0, func(c *api.Column) { c.Levels = []string{} }),
		column(1, func(c *api.Column) { c.Levels = []string{"", "power", "\x00"} }), column(1, func(c *api.Column) { c.Levels = manyNames(api.MaxLevels) }), column(3, func(c *api.Column) { c.Levels = []string{"unused", "Unused", strings.Repeat("x", 1000)} }), column(3, func(c *api.Column) { c.Kind = api.Number }),
		cell(0, 0, api.Cell{}), cell(0, 4, api.Cell{Missing: true}), cell(2, 1, api.Cell{Value: big}), cell(1, 2, api.Cell{Level: 2}), cell(1, 2, api.Cell{}), cell(1, 0, api.Cell{Missing: true}), cell(1, 4, api.Cell{Value: api.Rat{Num: api.Int{Mag: []uint32{}}, Den: []uint32{}}, Level: 2}),
	}), wide(api.MaxFields), tall(t, api.MaxRecords))
}

func TestValid(t *testing.T) {
	for _, x := range whole(t) {
		if !table.Valid(x) || !isTable(x) {
			t.Errorf("%.300s is not valid", describe(x))
		}
	}
	for i, x := range broken(t) {
		if table.Valid(x) || isTable(x) {
			t.Errorf("case %d: %.300s is valid", i, describe(x))
		}
	}
}

// P8.4: a table that is not Valid is the first error of all functions, and has no columns to be found.
func TestBrokenTables(t *testing.T) {
	for i, x := range broken(t) {
		for _, name := range []string{"x1", "g1", "g2", "more", ""} {
			if got := table.Find(x, name); got != -1 {
				t.Errorf("case %d: %s is found at %d", i, name, got)
			}
		}
		for _, wrong := range []bool{false, true} {
			at, names, cells := 0, []string{"x1"}, []api.Cell{{Missing: true}, {Missing: true}, {Missing: true}, {Missing: true}}
			if wrong {
				at, names, cells = -1, []string{"unknown"}, nil
			}
			rows, e1 := table.Complete(x, names)
			row, e2 := table.Row(x, at)
			a, e3 := table.Select(x, []int{at})
			b, e4 := table.Insert(x, at, cells)
			c, e5 := table.Delete(x, at)
			if errors := []api.Errno{e1, e2, e3, e4, e5}; slices.ContainsFunc(errors, func(e api.Errno) bool { return e != api.ErrForm }) {
				t.Errorf("case %d: errors %v", i, errors)
			}
			if len(rows)+len(row) > 0 || describe(a)+describe(b)+describe(c) != "000" {
				t.Errorf("case %d: %v %v %s %s %s", i, rows, row, describe(a), describe(b), describe(c))
			}
		}
	}
}
