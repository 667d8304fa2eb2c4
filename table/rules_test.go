package table_test

import (
	"fmt"
	"math"
	"math/rand/v2"
	"slices"
	"strings"
	"sync"
	"testing"

	"robuststats/api"
	"robuststats/table"
)

// some are arguments of all kinds, valid ones and others.
func some(t *testing.T) []arguments {
	t.Helper()
	random := rand.New(rand.NewPCG(8, 5))
	a := arguments{
		fields: fields(t, "x1 g1 z x2 g2", "NA", "-"), records: split("5/2,a,?,-12345678901234567890/7,level one", "NA,b,,-,level two", "3,-,?,1/12345678901234567890,level one"),
		header: strings.Fields("first second third"), missing: []string{"-", "NA"}, table: sample(t), names: []string{"x1", "g1"}, rows: []int{2, 0, 4, 0, 1}, at: 1, cells: []api.Cell{{Value: number(t, "-12345678901234567890/7")}, {Level: 2}, {Missing: true}, {Missing: true}},
	}
	a.fields[0].Unit, a.fields[3].Unit = number(t, "12345678901234567890/11"), number(t, "-1/3")
	list := []arguments{{}, a}
	for _, x := range slices.Concat(whole(t)[:20], broken(t)[:60]) {
		a.table = x
		list = append(list, a)
	}
	for range 60 {
		fs, records, _ := drawnRecords(random)
		b := arguments{fields: fs, records: records, header: manyNames(random.IntN(4)), missing: []string{"NA"}, table: drawnTable(random, 5, 4), names: []string{"c0", "c1"}[:random.IntN(3)], rows: []int{0, 1, 0}, at: random.IntN(3)}
		for _, c := range b.table.Columns {
			b.cells = append(b.cells, drawnCell(random, c))
		}
		list = append(list, b)
	}
	return list
}

// R2: neither the arguments nor what stands behind their ends are changed, and the latter is not read.
func TestArgumentsAreKept(t *testing.T) {
	for i, a := range some(t) {
		want := fmt.Sprint(a.results())
		var c copies
		b := c.of(a)
		before := fmt.Sprint(c)
		if got := fmt.Sprint(b.results()); got != want {
			t.Errorf("case %d: %.600s, not %.600s", i, got, want)
		}
		if fmt.Sprint(c) != before || fmt.Sprint(b) != fmt.Sprint(a) {
			t.Errorf("case %d: arguments have changed", i)
		}
	}
}

// R2: no result shares memory with an argument or with another result, also within one table.
func TestResultsAreNew(t *testing.T) {
	checked := 0
	for i, a := range some(t) {
		var c copies
		b := c.of(a)
		r := b.results()
		ours := r.blocks()
		for _, text := range shared(b.blocks(), ours) {
			t.Errorf("case %d: %s share memory", i, text)
		}
		checked += len(ours)
		// The same row twice, and the same cell in all columns, are no memory in common either.
		twice, _ := table.Select(b.table, []int{0, 0, 0})
		var rows blocks
		rows.table("Select", twice)
		for _, text := range shared(b.blocks(), rows) {
			t.Errorf("case %d: %s share memory", i, text)
		}
	}
	if checked < 1000 {
		t.Errorf("only %d pieces of memory", checked)
	}
}

// R2: fields and a row given twice, with the same memory.
func TestArgumentsMayShareMemory(t *testing.T) {
	unit, texts := number(t, "-12345678901234567890/7"), []string{"NA", "NA"}
	fs := []api.Field{{Name: "NA", Kind: api.Number, Unit: unit, Missing: texts}, {Name: "b", Kind: api.Number, Unit: unit, Missing: texts}}
	for _, record := range [][]string{texts, {"1", "1"}, {"1/2", "NA"}} {
		x, _, e := table.Build(fs, [][]string{record, record})
		cell := api.Cell{Value: unit}
		y, f := table.Insert(x, 1, []api.Cell{cell, cell})
		inferred, g := table.Infer(texts[:1], [][]string{texts, texts}, texts)
		var b, c blocks
		b.table("Build", x)
		b.table("Insert", y)
		b.fields("Infer", inferred)
		c.fields("fields", fs)
		if both := shared(c, b); len(both) > 0 || e+f+g != api.OK || y.Rows != 3 {
			t.Errorf("%q: %v, errors %d, %d, %d", record, both, e, f, g)
		}
	}
}

// R3: nil and empty lists are equal.
func TestNilIsEmpty(t *testing.T) {
	none := api.Rat{Num: api.Int{Mag: []uint32{}}, Den: []uint32{}}
	for _, lists := range [][2]arguments{
		{{}, {fields: []api.Field{}, records: [][]string{}, header: []string{}, missing: []string{}, table: api.Table{Columns: []api.Column{}}, names: []string{}, rows: []int{}, cells: []api.Cell{}}},
		{{records: [][]string{nil}, header: []string{"x"}, table: api.Table{Columns: []api.Column{{Name: "x", Kind: 1}, {Name: "g", Kind: 2}}}, cells: []api.Cell{{}, {Missing: true}}}, {records: [][]string{{}}, header: []string{"x"}, table: api.Table{Columns: []api.Column{{Name: "x", Kind: 1, Levels: []string{}, Cells: []api.Cell{}}, {Name: "g", Kind: 2, Levels: []string{}, Cells: []api.Cell{}}}}, cells: []api.Cell{{Value: none}, {Missing: true, Value: none}}}},
		{{fields: []api.Field{{Name: "g", Kind: 2}}, records: [][]string{{""}}, table: api.Table{Rows: 1, Columns: []api.Column{{Name: "x", Kind: 1, Cells: []api.Cell{{}}}}}, cells: []api.Cell{{Missing: true}}}, {fields: []api.Field{{Name: "g", Kind: 2, Missing: []string{}, Unit: none}}, records: [][]string{{""}}, table: api.Table{Rows: 1, Columns: []api.Column{{Name: "x", Kind: 1, Cells: []api.Cell{{Value: none}}}}}, cells: []api.Cell{{Missing: true, Value: none}}}},
		{{fields: []api.Field{{Name: "x", Kind: 1}}}, {fields: []api.Field{{Name: "x", Kind: 1, Unit: none}}}},
	} {
		if got, want := fmt.Sprint(lists[1].results()), fmt.Sprint(lists[0].results()); got != want {
			t.Errorf("%s, not %s", got, want)
		}
	}
}

// R1: any numbers, kinds and indices are answered, and a table that is not Valid is refused by all functions.
func TestAnyTable(t *testing.T) {
	random := rand.New(rand.NewPCG(8, 6))
	numbers := []int{0, 1, 2, 3, -1, math.MaxInt, math.MinInt}
	draw := func() int { return numbers[random.IntN(len(numbers))] }
	valid := 0
	for range 3000 {
		x := drawnTable(random, 3, 3)
		for range random.IntN(3) {
			x.Rows += draw() * random.IntN(2)
			for i := range x.Columns {
				spoil(random, &x.Columns[i], draw)
			}
		}
		a := arguments{table: x, names: []string{"c0", "C"}[:random.IntN(3)], rows: []int{draw(), draw()}, at: draw(), cells: []api.Cell{{Value: invalid()[random.IntN(11)], Level: draw()}, {Missing: true}, {}}[:random.IntN(4)]}
		r := a.results()
		want := isTable(x)
		if table.Valid(x) != want || !want && fmt.Sprint(r) != fmt.Sprint(refused(a)) || !isTable(r.selected) || !isTable(r.inserted) || !isTable(r.erased) {
			t.Errorf("%s: %v", describe(x), r)
		}
		if want {
			valid++
		}
	}
	if valid < 300 || valid > 2700 {
		t.Errorf("%d valid tables", valid)
	}
}

// spoil changes a column, in some cases to one that is not well-formed.
func spoil(random *rand.Rand, c *api.Column, draw func() int) {
	switch random.IntN(8) {
	case 0:
		c.Kind = draw()
	case 1:
		c.Name = []string{"c0", "", "power", "other"}[random.IntN(4)]
	case 2:
		c.Levels = append(c.Levels, []string{"level 0", "level 9"}[random.IntN(2)])
	case 3:
		c.Cells = c.Cells[:len(c.Cells)/2]
	}
	if len(c.Cells) == 0 {
		return
	}
	cell := &c.Cells[random.IntN(len(c.Cells))]
	switch random.IntN(8) {
	case 0:
		cell.Level = draw()
	case 1:
		cell.Value = invalid()[random.IntN(11)]
	case 2:
		cell.Missing = !cell.Missing
	}
}

// refused are the results for a table that is not Valid, and no fields.
func refused(a arguments) results {
	e := [7]api.Errno{2: api.ErrForm, 3: api.ErrForm, 4: api.ErrForm, 5: api.ErrForm, 6: api.ErrForm}
	r := results{codes: []string{fmt.Sprint(0, e, false)}}
	for _, name := range a.names {
		r.codes = append(r.codes, fmt.Sprint(isName(name), -1))
	}
	return r
}

// R6: calls at the same time have the results of single calls.
func TestCallsAreIndependent(t *testing.T) {
	list := some(t)
	var want []string
	for _, a := range list {
		want = append(want, fmt.Sprint(a.results()))
	}
	var all sync.WaitGroup
	for worker := range 4 {
		all.Go(func() {
			for i := range list {
				at := (i*7 + worker*11) % len(list)
				if got := fmt.Sprint(list[at].results()); got != want[at] {
					t.Errorf("case %d: %.300s, not %.300s", at, got, want[at])
				}
			}
		})
	}
	all.Wait()
}
