package table_test

import (
	"cmp"
	"fmt"
	"slices"
	"unsafe"

	"robuststats/api"
	"robuststats/table"
)

const guard = 0xdeadbeef

// arguments are those of all functions.
type arguments struct {
	fields          []api.Field
	records         [][]string
	header, missing []string
	table           api.Table
	names           []string
	rows            []int
	at              int
	cells           []api.Cell
}

// results are those of all functions; the codes are the results that are no lists.
type results struct {
	inferred                          []api.Field
	built, selected, inserted, erased api.Table
	complete                          []int
	row                               []api.Cell
	codes                             []string
}

func (a arguments) results() results {
	var r results
	var row int
	var e [7]api.Errno
	r.inferred, e[0] = table.Infer(a.header, a.records, a.missing)
	r.built, row, e[1] = table.Build(a.fields, a.records)
	r.complete, e[2] = table.Complete(a.table, a.names)
	r.row, e[3] = table.Row(a.table, a.at)
	r.selected, e[4] = table.Select(a.table, a.rows)
	r.inserted, e[5] = table.Insert(a.table, a.at, a.cells)
	r.erased, e[6] = table.Delete(a.table, a.at)
	r.codes = []string{fmt.Sprint(row, e, table.Valid(a.table))}
	for _, name := range slices.Concat(a.names, a.header) {
		r.codes = append(r.codes, fmt.Sprint(table.Name(name), table.Find(a.table, name)))
	}
	return r
}

// copies are lists with more elements behind their ends, and the whole of that memory.
type copies struct {
	limbs   [][]uint32
	texts   [][]string
	cells   [][]api.Cell
	columns [][]api.Column
	records [][][]string
	fields  [][]api.Field
	rows    [][]int
}

// guarded copies a list with elements behind its end.
func guarded[T any](all *[][]T, list []T, copyOf func(T) T, behind ...T) []T {
	var long []T
	for _, x := range append(slices.Clone(list), behind...) {
		long = append(long, copyOf(x))
	}
	*all = append(*all, long)
	return long[:len(list)]
}

// plain is the copy of what contains no list.
func plain[T any](x T) T { return x }

func (c *copies) number(x api.Rat) api.Rat {
	return api.Rat{Num: api.Int{Neg: x.Num.Neg, Mag: guarded(&c.limbs, x.Num.Mag, plain, guard, 0)}, Den: guarded(&c.limbs, x.Den, plain, guard, 0)}
}

func (c *copies) cell(x api.Cell) api.Cell {
	return api.Cell{Missing: x.Missing, Value: c.number(x.Value), Level: x.Level}
}

func (c *copies) column(x api.Column) api.Column {
	return api.Column{Name: x.Name, Kind: x.Kind, Levels: guarded(&c.texts, x.Levels, plain, "behind", "behind"), Cells: guarded(&c.cells, x.Cells, c.cell, api.Cell{Level: guard}, api.Cell{Missing: true})}
}

func (c *copies) field(x api.Field) api.Field {
	return api.Field{Name: x.Name, Kind: x.Kind, Missing: guarded(&c.texts, x.Missing, plain, "1", "a", "NA", ""), Unit: c.number(x.Unit)}
}

func (c *copies) record(x []string) []string {
	return guarded(&c.texts, x, plain, "behind", "2")
}

// of copies all arguments.
func (c *copies) of(a arguments) arguments {
	return arguments{
		fields:  guarded(&c.fields, a.fields, c.field, api.Field{}, api.Field{Name: "more", Kind: api.Skip}),
		records: guarded(&c.records, a.records, c.record, nil, []string{"x", "behind"}),
		header:  guarded(&c.texts, a.header, plain, "behind", ""),
		missing: guarded(&c.texts, a.missing, plain, "1", "a"),
		table:   api.Table{Rows: a.table.Rows, Columns: guarded(&c.columns, a.table.Columns, c.column, api.Column{}, api.Column{Name: "more", Kind: api.Number})},
		names:   guarded(&c.texts, a.names, plain, "unknown"),
		rows:    guarded(&c.rows, a.rows, plain, guard, -1),
		at:      a.at,
		cells:   guarded(&c.cells, a.cells, c.cell, api.Cell{Level: guard}),
	}
}

// block is a piece of memory.
type block struct {
	from, to uintptr
	what     string
}

type blocks []block

// add adds the memory of a list up to its capacity.
func add[T any](b *blocks, what string, list []T) {
	if list = list[:cap(list)]; len(list) > 0 {
		from := uintptr(unsafe.Pointer(unsafe.SliceData(list)))
		*b = append(*b, block{from, from + uintptr(len(list))*unsafe.Sizeof(list[0]), what})
	}
}

func (b *blocks) text(what, s string) {
	if len(s) > 0 {
		from := uintptr(unsafe.Pointer(unsafe.StringData(s)))
		*b = append(*b, block{from, from + uintptr(len(s)), what})
	}
}

func (b *blocks) texts(what string, list []string) {
	add(b, what, list)
	for _, s := range list {
		b.text(what, s)
	}
}

func (b *blocks) cells(what string, list []api.Cell) {
	add(b, what, list)
	for _, cell := range list {
		add(b, what+": value", cell.Value.Num.Mag)
		add(b, what+": value", cell.Value.Den)
	}
}

func (b *blocks) fields(what string, list []api.Field) {
	add(b, what, list)
	for _, f := range list {
		b.text(what+": name", f.Name)
		b.texts(what+": missing", f.Missing)
		add(b, what+": unit", f.Unit.Num.Mag)
		add(b, what+": unit", f.Unit.Den)
	}
}

func (b *blocks) table(what string, x api.Table) {
	add(b, what, x.Columns)
	for _, c := range x.Columns {
		b.text(what+": name", c.Name)
		b.texts(what+": levels", c.Levels)
		b.cells(what+": cells", c.Cells)
	}
}

// blocks lists the memory of the results.
func (r results) blocks() blocks {
	var b blocks
	b.fields("Infer", r.inferred)
	b.table("Build", r.built)
	add(&b, "Complete", r.complete)
	b.cells("Row", r.row)
	b.table("Select", r.selected)
	b.table("Insert", r.inserted)
	b.table("Delete", r.erased)
	return b
}

// blocks lists the memory of those parts of arguments that a result could share.
func (a arguments) blocks() blocks {
	var b blocks
	b.fields("argument: fields", a.fields)
	for _, record := range a.records {
		b.texts("argument: record", record)
	}
	b.texts("argument: header", a.header)
	b.texts("argument: missing", a.missing)
	b.table("argument: table", a.table)
	add(&b, "argument: rows", a.rows)
	b.cells("argument: cells", a.cells)
	return b
}

// shared returns what shares memory: two results, or one and an argument.
func shared(arguments, results blocks) []string {
	var both []string
	ours := slices.Clone(results)
	slices.SortFunc(ours, func(x, y block) int { return cmp.Compare(x.from, y.from) })
	for i, x := range ours[min(1, len(ours)):] {
		if ours[i].to > x.from {
			both = append(both, ours[i].what+" and "+x.what)
		}
	}
	for _, x := range arguments {
		for _, y := range ours {
			if x.from < y.to && y.from < x.to {
				both = append(both, x.what+" and "+y.what)
			}
		}
	}
	return both
}
