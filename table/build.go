package table

import (
	"slices"
	"strings"

	"robuststats/api"
	"robuststats/rational"
)

// Infer guesses the fields of records.
func Infer(header []string, records [][]string, missing []string) ([]api.Field, api.Errno) {
	if len(header) > api.MaxFields || len(records) > api.MaxRecords {
		return nil, api.ErrLimit
	}
	if !areNames(header) {
		return nil, api.ErrName
	}
	isMissing := oneOf(missing)
	fields := make([]api.Field, len(header))
	for i, name := range header {
		fields[i] = api.Field{Name: strings.Clone(name), Kind: api.Category, Missing: copyTexts(missing)}
		if haveNumbers(records, i, isMissing) {
			fields[i].Kind, fields[i].Unit = api.Number, rational.FromInt(1)
		}
	}
	return fields, api.OK
}

// oneOf returns a function that reports whether a text is one of the codes. They are kept as a set, since their number has no limit.
func oneOf(codes []string) func(text string) bool {
	set := make(map[string]bool, len(codes))
	for _, code := range codes {
		set[code] = true
	}
	return func(text string) bool { return set[text] }
}

// haveNumbers reports whether the cells of records at an index are numbers where they are not missing, and are not missing everywhere.
func haveNumbers(records [][]string, at int, isMissing func(text string) bool) bool {
	found := false
	for _, record := range records {
		if at >= len(record) || isMissing(record[at]) {
			continue
		}
		if _, found = rational.Parse(record[at]); !found {
			return false
		}
	}
	return found
}

// Build returns the table of records.
func Build(fields []api.Field, records [][]string) (t api.Table, row int, e api.Errno) {
	if e := checkFields(fields, len(records)); e != api.OK {
		return api.Table{}, 0, e
	}
	columns := make([]api.Column, len(fields))
	adders := make([]func(text string) api.Errno, len(fields))
	for i, field := range fields {
		columns[i] = api.Column{Name: strings.Clone(field.Name), Kind: field.Kind}
		adders[i] = adder(field, &columns[i])
	}
	for i, record := range records {
		if e := addRecord(adders, record); e != api.OK {
			return api.Table{}, i + 1, e
		}
	}
	columns = slices.DeleteFunc(columns, func(c api.Column) bool { return c.Kind == api.Skip })
	return api.Table{Rows: len(records), Columns: columns}, 0, api.OK
}

// checkFields returns the first error of fields for so many records.
func checkFields(fields []api.Field, records int) api.Errno {
	if len(fields) > api.MaxFields || records > api.MaxRecords {
		return api.ErrLimit
	}
	if !areNames(namesOf(fields, func(f api.Field) string { return f.Name })) {
		return api.ErrName
	}
	if slices.ContainsFunc(fields, func(f api.Field) bool { return !isReadable(f) }) {
		return api.ErrForm
	}
	return api.OK
}

// isReadable reports whether a field has a kind, and the unit that a Number needs.
func isReadable(f api.Field) bool {
	if f.Kind == api.Number {
		return rational.Valid(f.Unit) && rational.Sign(f.Unit) != 0
	}
	return f.Kind == api.Category || f.Kind == api.Skip
}

// addRecord passes the texts of a record to the functions for its fields.
func addRecord(adders []func(text string) api.Errno, record []string) api.Errno {
	if len(record) != len(adders) {
		return api.ErrShape
	}
	for i, add := range adders {
		if e := add(record[i]); e != api.OK {
			return e
		}
	}
	return api.OK
}

// adder returns a function that reads the text of a field and adds the cell to a column.
func adder(field api.Field, column *api.Column) func(text string) api.Errno {
	var read func(text string) (api.Cell, api.Errno)
	switch field.Kind {
	case api.Number:
		read = numberReader(field.Unit)
	case api.Category:
		read = levelReader(column)
	default:
		return func(string) api.Errno { return api.OK }
	}
	isMissing := oneOf(field.Missing)
	return func(text string) api.Errno {
		cell, e := api.Cell{Missing: true}, api.OK
		if !isMissing(text) {
			cell, e = read(text)
		}
		column.Cells = append(column.Cells, cell)
		return e
	}
}

// numberReader returns a function that reads the cells of a Number.
func numberReader(unit api.Rat) func(text string) (api.Cell, api.Errno) {
	return func(text string) (api.Cell, api.Errno) {
		x, ok := rational.Parse(text)
		if !ok {
			return api.Cell{}, api.ErrForm
		}
		return api.Cell{Value: rational.Mul(x, unit)}, api.OK
	}
}

// levelReader returns a function that reads the cells of a Category, and adds the levels that are new to the column.
func levelReader(column *api.Column) func(text string) (api.Cell, api.Errno) {
	return func(text string) (api.Cell, api.Errno) {
		level := slices.Index(column.Levels, text)
		if level >= 0 {
			return api.Cell{Level: level}, api.OK
		}
		level = len(column.Levels)
		if level == api.MaxLevels {
			return api.Cell{}, api.ErrLimit
		}
		column.Levels = append(column.Levels, strings.Clone(text))
		return api.Cell{Level: level}, api.OK
	}
}
