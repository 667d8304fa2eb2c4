package table

import (
	"slices"
	"strings"

	"robuststats/api"
)

// Complete returns the rows without missing cells in some columns.
func Complete(t api.Table, names []string) ([]int, api.Errno) {
	if !Valid(t) {
		return nil, api.ErrForm
	}
	// Each column is looked at once, however often it is named.
	needed := make([]bool, len(t.Columns))
	for _, name := range names {
		at := find(t, name)
		if at < 0 {
			return nil, api.ErrName
		}
		needed[at] = true
	}
	var rows []int
	for row := range t.Rows {
		if isComplete(t, row, needed) {
			rows = append(rows, row)
		}
	}
	return rows, api.OK
}

// isComplete reports whether a row has no missing cell in the needed columns.
func isComplete(t api.Table, row int, needed []bool) bool {
	for i, c := range t.Columns {
		if needed[i] && c.Cells[row].Missing {
			return false
		}
	}
	return true
}

// Row returns the cells of a row.
func Row(t api.Table, at int) ([]api.Cell, api.Errno) {
	if e := check(t, t.Rows, at); e != api.OK {
		return nil, e
	}
	cells := make([]api.Cell, len(t.Columns))
	for i, c := range t.Columns {
		cells[i] = copyCell(c.Cells[at])
	}
	return cells, api.OK
}

// check returns the error of a table that is not Valid, or else that of a number that is not from 0 to end - 1.
func check(t api.Table, end int, numbers ...int) api.Errno {
	switch {
	case !Valid(t):
		return api.ErrForm
	case slices.ContainsFunc(numbers, func(at int) bool { return at < 0 || at >= end }):
		return api.ErrRange
	}
	return api.OK
}

// Select returns the table of some rows.
func Select(t api.Table, rows []int) (api.Table, api.Errno) {
	if e := check(t, t.Rows, rows...); e != api.OK {
		return api.Table{}, e
	}
	if len(rows) > api.MaxRecords {
		return api.Table{}, api.ErrLimit
	}
	return arranged(t, len(rows), func(column, row int) api.Cell { return t.Columns[column].Cells[rows[row]] }), api.OK
}

// Insert adds a row.
func Insert(t api.Table, at int, cells []api.Cell) (api.Table, api.Errno) {
	if e := check(t, t.Rows+1, at); e != api.OK {
		return api.Table{}, e
	}
	if t.Rows == api.MaxRecords {
		return api.Table{}, api.ErrLimit
	}
	if len(cells) != len(t.Columns) {
		return api.Table{}, api.ErrShape
	}
	for i, cell := range cells {
		if !fits(t.Columns[i], cell) {
			return api.Table{}, api.ErrType
		}
	}
	return arranged(t, t.Rows+1, func(column, row int) api.Cell {
		switch {
		case row < at:
			return t.Columns[column].Cells[row]
		case row == at:
			return cells[column]
		}
		return t.Columns[column].Cells[row-1]
	}), api.OK
}

// Delete removes a row.
func Delete(t api.Table, at int) (api.Table, api.Errno) {
	if e := check(t, t.Rows, at); e != api.OK {
		return api.Table{}, e
	}
	return arranged(t, t.Rows-1, func(column, row int) api.Cell {
		if row < at {
			return t.Columns[column].Cells[row]
		}
		return t.Columns[column].Cells[row+1]
	}), api.OK
}

// arranged returns a table with the columns of t and so many rows of copies of the cells that the function names.
func arranged(t api.Table, rows int, cellAt func(column, row int) api.Cell) api.Table {
	columns := make([]api.Column, len(t.Columns))
	for i, c := range t.Columns {
		columns[i] = api.Column{Name: strings.Clone(c.Name), Kind: c.Kind, Levels: copyTexts(c.Levels), Cells: make([]api.Cell, rows)}
		for row := range rows {
			columns[i].Cells[row] = copyCell(cellAt(i, row))
		}
	}
	return api.Table{Rows: rows, Columns: columns}
}
