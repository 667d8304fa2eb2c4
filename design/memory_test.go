package design_test

import (
	"cmp"
	"fmt"
	"slices"
	"unsafe"

	"robuststats/api"
	"robuststats/design"
	"robuststats/rational"
)

const guard = 0xdeadbeef

// copies are lists with more elements behind their ends, and the whole of that memory.
type copies struct {
	limbs   [][]uint32
	texts   [][]string
	cells   [][]api.Cell
	columns [][]api.Column
	factors [][]api.Factor
	terms   [][][]api.Factor
	numbers [][]api.Rat
	rows    [][][]api.Rat
}

// guarded copies a list with elements behind its end.
func guarded[T any](all *[][]T, list []T, copyOf func(T) T, behind ...T) []T {
	var long []T
	for _, x := range append(slices.Clone(list), behind...) {
		long = append(long, copyOf(x))
	}
	*all = append(*all, long)
	return long[:len(list)]
}

// plain is the copy of what contains no list.
func plain[T any](x T) T { return x }

func (c *copies) number(x api.Rat) api.Rat {
	return api.Rat{Num: api.Int{Neg: x.Num.Neg, Mag: guarded(&c.limbs, x.Num.Mag, plain, guard, 0)}, Den: guarded(&c.limbs, x.Den, plain, guard, 0)}
}

func (c *copies) cell(x api.Cell) api.Cell {
	return api.Cell{Missing: x.Missing, Value: c.number(x.Value), Level: x.Level}
}

func (c *copies) column(x api.Column) api.Column {
	return api.Column{Name: x.Name, Kind: x.Kind, Levels: guarded(&c.texts, x.Levels, plain, "behind", "behind"), Cells: guarded(&c.cells, x.Cells, c.cell, api.Cell{Level: guard}, api.Cell{Missing: true})}
}

func (c *copies) table(x api.Table) api.Table {
	return api.Table{Rows: x.Rows, Columns: guarded(&c.columns, x.Columns, c.column, api.Column{}, api.Column{Name: "unknown", Kind: api.Number})}
}

func (c *copies) term(x []api.Factor) []api.Factor {
	return guarded(&c.factors, x, plain, api.Factor{Name: "behind", Power: 1}, api.Factor{Name: "x0", Power: 2})
}

func (c *copies) model(m api.Model) api.Model {
	m.Terms = guarded(&c.terms, m.Terms, c.term, nil, []api.Factor{{Name: "x0", Power: 1}})
	return m
}

func (c *copies) row(list []api.Rat) []api.Rat {
	return guarded(&c.numbers, list, c.number, rational.FromInt(guard), api.Rat{})
}

func (c *copies) matrix(m [][]api.Rat) [][]api.Rat {
	behind := [][]api.Rat{nil, {rational.FromInt(7)}}
	if len(m) > 0 {
		behind = append(behind, m[0])
	}
	return guarded(&c.rows, m, c.row, behind...)
}

// block is a piece of memory.
type block struct {
	from, to uintptr
	what     string
}

type blocks []block

// add adds the memory of a list up to its capacity.
func add[T any](b *blocks, what string, list []T) {
	if list = list[:cap(list)]; len(list) > 0 {
		from := uintptr(unsafe.Pointer(unsafe.SliceData(list)))
		*b = append(*b, block{from, from + uintptr(len(list))*unsafe.Sizeof(list[0]), what})
	}
}

// texts adds those of more than one byte, because the language keeps one copy of each shorter one.
func (b *blocks) texts(what string, list []string) {
	add(b, what, list)
	for _, s := range list {
		if len(s) > 1 {
			from := uintptr(unsafe.Pointer(unsafe.StringData(s)))
			*b = append(*b, block{from, from + uintptr(len(s)), fmt.Sprintf("%s %q", what, s)})
		}
	}
}

func (b *blocks) numbers(what string, list []api.Rat) {
	add(b, what, list)
	for _, x := range list {
		add(b, what+": numerator", x.Num.Mag)
		add(b, what+": denominator", x.Den)
	}
}

func (b *blocks) matrix(what string, m [][]api.Rat) {
	add(b, what, m)
	for _, row := range m {
		b.numbers(what, row)
	}
}

func (b *blocks) table(x api.Table) {
	add(b, "columns", x.Columns)
	for _, c := range x.Columns {
		b.texts("name of a column", []string{c.Name})
		b.texts("levels", c.Levels)
		add(b, "cells", c.Cells)
		for _, cell := range c.Cells {
			b.numbers("cell", []api.Rat{cell.Value})
		}
	}
}

func (b *blocks) model(m api.Model) {
	b.texts("response", []string{m.Response})
	add(b, "terms", m.Terms)
	for _, term := range m.Terms {
		add(b, "term", term)
		for _, f := range term {
			b.texts("factor", []string{f.Name})
		}
	}
}

func (b *blocks) design(what string, d api.Design) {
	var names []string
	for _, name := range d.Names {
		// A constant is no memory of a call.
		if name != "(Intercept)" {
			names = append(names, name)
		}
	}
	add(b, what+": names", d.Names)
	b.texts(what+": name", slices.Clip(names))
	b.matrix(what+": X", d.X)
	b.numbers(what+": Y", d.Y)
	add(b, what+": rows", d.Rows)
}

// shared returns what shares memory: two results, or one and an argument.
func shared(arguments, results blocks) []string {
	var both []string
	ours := slices.Clone(results)
	slices.SortFunc(ours, func(x, y block) int { return cmp.Compare(x.from, y.from) })
	for i, x := range ours[min(1, len(ours)):] {
		if ours[i].to > x.from {
			both = append(both, ours[i].what+" and "+x.what)
		}
	}
	for _, x := range arguments {
		for _, y := range ours {
			if x.from < y.to && y.from < x.to {
				both = append(both, x.what+" and "+y.what)
			}
		}
	}
	return both
}

// results writes what Build and Alias say.
func results(a arguments, m [][]api.Rat) string {
	d, e := design.Build(a.table, a.model, a.coding)
	used, by, f := design.Alias(m)
	return fmt.Sprintf("%s %d %v %v %d", show(d), e, used, showRows(by), f)
}
