package table_test

import (
	"fmt"
	"math"
	"math/rand/v2"
	"slices"
	"strings"
	"testing"

	"robuststats/api"
	"robuststats/table"
)

// gives fails the test if a result is not the table that is wanted, or not Valid.
func gives(t *testing.T, what string, got api.Table, e api.Errno, want string) {
	t.Helper()
	if show(got) != want || e != api.OK || !isTable(got) {
		t.Errorf("%s: %s, error %d, not %s", what, show(got), e, want)
	}
}

// fails fails the test if there is another error, or a result beside it.
func fails(t *testing.T, what string, got api.Table, e, want api.Errno) {
	t.Helper()
	if e != want || describe(got) != "0" {
		t.Errorf("%s: %.200s, error %d, not %d", what, describe(got), e, want)
	}
}

func TestFind(t *testing.T) {
	x := sample(t)
	for name, want := range map[string]int{"x1": 0, "g1": 1, "x2": 2, "g2": 3, "": -1, "x": -1, "X1": -1, "x1 ": -1, "a": -1, "power": -1} {
		if got := table.Find(x, name); got != want {
			t.Errorf("%q: %d, not %d", name, got, want)
		}
	}
	for i, name := range manyNames(api.MaxFields) {
		if got := table.Find(wide(api.MaxFields), name); got != i {
			t.Errorf("%s: %d, not %d", name, got, i)
		}
	}
	if got := table.Find(api.Table{}, ""); got != -1 {
		t.Errorf("%d in a table without columns", got)
	}
}

func TestComplete(t *testing.T) {
	x := sample(t)
	for _, v := range []struct {
		names string
		want  string
		e     api.Errno
	}{
		{"", "[0 1 2 3 4]", api.OK}, {"x1", "[0 2 3 4]", api.OK}, {"g1", "[0 1 3 4]", api.OK}, {"x2", "[1 2 3 4]", api.OK}, {"g2", "[]", api.OK}, {"x1 g1", "[0 3 4]", api.OK}, {"g1 x1 x1 g1", "[0 3 4]", api.OK}, {"x2 g1 x1", "[3 4]", api.OK}, {"x1 g2", "[]", api.OK},
		{"x", "[]", api.ErrName}, {"x1 X1", "[]", api.ErrName}, {"unknown x1", "[]", api.ErrName}, {"g2 power", "[]", api.ErrName},
	} {
		if got, e := table.Complete(x, strings.Fields(v.names)); fmt.Sprint(got) != v.want || e != v.e {
			t.Errorf("%s: %v, error %d, not %s, error %d", v.names, got, e, v.want, v.e)
		}
	}
	if got, e := table.Complete(x, []string{"x1", ""}); len(got) != 0 || e != api.ErrName {
		t.Errorf("an empty name: %v, error %d", got, e)
	}
	if got, e := table.Complete(api.Table{Rows: 3}, nil); fmt.Sprint(got) != "[0 1 2]" || e != api.OK {
		t.Errorf("without columns: %v, error %d", got, e)
	}
	if got, e := table.Complete(wide(5), []string{"n0", "n4"}); len(got) != 0 || e != api.OK {
		t.Errorf("without rows: %v, error %d", got, e)
	}
	if got, e := table.Complete(tall(t, api.MaxRecords), slices.Repeat([]string{"x", "g"}, 100000)); len(got) != api.MaxRecords || e != api.OK {
		t.Errorf("with many names: %d rows, error %d", len(got), e)
	}
}

func TestRow(t *testing.T) {
	x := sample(t)
	for at := range x.Rows {
		var want []api.Cell
		for _, c := range x.Columns {
			want = append(want, c.Cells[at])
		}
		if got, e := table.Row(x, at); fmt.Sprint(got) != fmt.Sprint(want) || e != api.OK {
			t.Errorf("row %d: %v, error %d, not %v", at, got, e, want)
		}
	}
	if got, e := table.Row(api.Table{Rows: 2}, 1); len(got) != 0 || e != api.OK {
		t.Errorf("without columns: %v, error %d", got, e)
	}
	for _, at := range []int{-1, 5, 6, math.MaxInt, math.MinInt} {
		if got, e := table.Row(x, at); len(got) != 0 || e != api.ErrRange {
			t.Errorf("row %d: %v, error %d", at, got, e)
		}
	}
	if got, e := table.Row(wide(3), 0); len(got) != 0 || e != api.ErrRange {
		t.Errorf("without rows: %v, error %d", got, e)
	}
}

func TestSelect(t *testing.T) {
	x, _, _ := table.Build(fields(t, "x g", "NA"), split("5/2,a", "NA,b", "-1,NA", "0,a"))
	for _, v := range []struct {
		rows []int
		want string
	}{
		{nil, "0; x:; g a|b:"}, {[]int{2}, "1; x: -1; g a|b: ?"}, {[]int{3, 0, 3, 1}, "4; x: 0 5/2 0 ?; g a|b: 0 0 0 1"}, {[]int{0, 1, 2, 3}, show(x)}, {[]int{1, 1, 1, 1, 1, 1}, "6; x: ? ? ? ? ? ?; g a|b: 1 1 1 1 1 1"},
	} {
		got, e := table.Select(x, v.rows)
		gives(t, fmt.Sprint(v.rows), got, e, v.want)
	}
	got, e := table.Select(api.Table{Rows: 2}, []int{1, 1, 0})
	gives(t, "without columns", got, e, "3")
	for _, rows := range [][]int{{-1}, {4}, {0, 1, 4}, {math.MaxInt}, {math.MinInt, 0}, append(make([]int, api.MaxRecords), 4), append(make([]int, 2*api.MaxRecords), -1)} {
		got, e := table.Select(x, rows)
		fails(t, "rows out of range", got, e, api.ErrRange)
	}
	got, e = table.Select(wide(3), []int{0})
	fails(t, "a row of none", got, e, api.ErrRange)
	got, e = table.Select(x, make([]int, api.MaxRecords+1))
	fails(t, "too many rows", got, e, api.ErrLimit)
	if got, e = table.Select(x, slices.Repeat([]int{3}, api.MaxRecords)); got.Rows != api.MaxRecords || e != api.OK || !isTable(got) {
		t.Errorf("MaxRecords rows: %d, error %d", got.Rows, e)
	}
}

func TestInsert(t *testing.T) {
	x, _, _ := table.Build(fields(t, "x g", "NA"), split("1,a", "NA,b"))
	for at, want := range []string{"3; x: 7/2 1 ?; g a|b: ? 0 1", "3; x: 1 7/2 ?; g a|b: 0 ? 1", "3; x: 1 ? 7/2; g a|b: 0 1 ?"} {
		got, e := table.Insert(x, at, []api.Cell{{Value: number(t, "7/2")}, {Missing: true}})
		gives(t, "Insert", got, e, want)
	}
	got, e := table.Insert(x, 2, []api.Cell{{Missing: true}, {Level: 1}})
	gives(t, "Insert", got, e, "3; x: 1 ? ?; g a|b: 0 1 1")
	got, e = table.Insert(wide(2), 0, []api.Cell{{}, {Missing: true}})
	gives(t, "Insert into no rows", got, e, "1; n0: 0; n1 : ?")
	got, e = table.Insert(api.Table{Rows: 2}, 1, nil)
	gives(t, "Insert into no columns", got, e, "3")
	if got, e = table.Insert(tall(t, api.MaxRecords-1), 5, []api.Cell{{}, {}}); got.Rows != api.MaxRecords || e != api.OK || !isTable(got) {
		t.Errorf("the last row: %d, error %d", got.Rows, e)
	}
}

// P8.4: the errors of Insert, each before those that follow it.
func TestInsertErrors(t *testing.T) {
	x, full := sample(t), tall(t, api.MaxRecords)
	wrong := api.Cell{Missing: true, Level: 1}
	for _, at := range []int{-1, 6, math.MaxInt, math.MinInt} {
		for _, cells := range [][]api.Cell{{{}, {}, {}, {Missing: true}}, {wrong, {}, {}, {Missing: true}}, nil, {wrong}} {
			got, e := table.Insert(x, at, cells)
			fails(t, "at", got, e, api.ErrRange)
		}
	}
	for _, cells := range [][]api.Cell{{{}, {}}, {{}}, {wrong, {}}, nil, {wrong}} {
		got, e := table.Insert(full, api.MaxRecords, cells)
		fails(t, "a full table", got, e, api.ErrLimit)
		got, e = table.Insert(full, api.MaxRecords+1, cells)
		fails(t, "behind a full table", got, e, api.ErrRange)
	}
	got, e := table.Insert(api.Table{Rows: api.MaxRecords}, 0, nil)
	fails(t, "a full table without columns", got, e, api.ErrLimit)
	for _, cells := range [][]api.Cell{nil, {}, {{}, {}, {}}, {{}, {}, {}, {Missing: true}, {}}, {wrong}, slices.Repeat([]api.Cell{wrong}, 5)} {
		got, e := table.Insert(x, 5, cells)
		fails(t, "another number of cells", got, e, api.ErrShape)
	}
}

// P8.4: Insert refuses the cells with which a table is not Valid, and no others.
func TestInsertCells(t *testing.T) {
	x := sample(t)
	var cells []api.Cell
	for _, value := range append(invalid(), api.Rat{}, one(), number(t, "-7/3"), number(t, "123456789012345678901234567890")) {
		for _, level := range []int{0, 1, 2, 3, -1, math.MaxInt, math.MinInt} {
			cells = append(cells, api.Cell{Value: value, Level: level}, api.Cell{Missing: true, Value: value, Level: level})
		}
	}
	for at := range x.Columns {
		for _, cell := range cells {
			row := []api.Cell{{}, {}, {}, {Missing: true}}
			row[at] = cell
			got, e := table.Insert(x, 3, row)
			if !isCell(cell, x.Columns[at].Kind, len(x.Columns[at].Levels)) {
				fails(t, fmt.Sprint(row), got, e, api.ErrType)
			} else if e != api.OK || !isTable(got) || fmt.Sprint(got.Columns[at].Cells[3]) != fmt.Sprint(cell) {
				t.Errorf("%v: %s, error %d", row, describe(got), e)
			}
		}
	}
}

func TestDelete(t *testing.T) {
	x, _, _ := table.Build(fields(t, "x g", "NA"), split("1,a", "NA,b", "2,a"))
	for at, want := range []string{"2; x: ? 2; g a|b: 1 0", "2; x: 1 2; g a|b: 0 0", "2; x: 1 ?; g a|b: 0 1"} {
		got, e := table.Delete(x, at)
		gives(t, "Delete", got, e, want)
	}
	got, e := table.Delete(api.Table{Rows: 1}, 0)
	gives(t, "Delete without columns", got, e, "0")
	got, e = table.Select(x, []int{1})
	gives(t, "Select", got, e, "1; x: ?; g a|b: 1")
	got, e = table.Delete(got, 0)
	gives(t, "Delete of the last row", got, e, "0; x:; g a|b:")
	got, e = table.Delete(got, 0)
	fails(t, "Delete of none", got, e, api.ErrRange)
	for _, at := range []int{-1, 3, 4, math.MaxInt, math.MinInt} {
		got, e := table.Delete(x, at)
		fails(t, "Delete", got, e, api.ErrRange)
	}
}

// Consequences, and P8.4 against lists of rows.
func TestRowsDrawn(t *testing.T) {
	random := rand.New(rand.NewPCG(8, 4))
	for range 300 {
		x := drawnTable(random, 6, 5)
		all := slices.Collect(upTo(x.Rows))
		if got, e := table.Select(x, all); describe(got) != describe(x) || e != api.OK {
			t.Errorf("%s: selected %s, error %d", describe(x), describe(got), e)
		}
		var row []api.Cell
		for _, c := range x.Columns {
			row = append(row, drawnCell(random, c))
		}
		at := random.IntN(x.Rows + 1)
		more, e1 := table.Insert(x, at, row)
		read, e2 := table.Row(more, at)
		less, e3 := table.Delete(more, at)
		if describe(less) != describe(x) || fmt.Sprint(read) != fmt.Sprint(row) || e1+e2+e3 != api.OK {
			t.Errorf("%s: %v, read %v, without it %s, errors %d, %d, %d", describe(x), row, read, describe(less), e1, e2, e3)
		}
		checkDrawnRows(t, random, more)
	}
}

// checkDrawnRows selects and deletes rows, and compares them with those that are read one by one.
func checkDrawnRows(t *testing.T, random *rand.Rand, x api.Table) {
	t.Helper()
	rows := make([]int, random.IntN(9))
	for i := range rows {
		rows[i] = random.IntN(x.Rows)
	}
	some, e1 := table.Select(x, rows)
	at := random.IntN(x.Rows)
	less, e2 := table.Delete(x, at)
	rest := slices.Delete(slices.Collect(upTo(x.Rows)), at, at+1)
	for got, want := range map[*api.Table][]int{&some: rows, &less: rest} {
		if got.Rows != len(want) || e1+e2 != api.OK || !isTable(*got) {
			t.Errorf("%s of %s: errors %d, %d", describe(*got), describe(x), e1, e2)
		}
		for i, from := range want {
			a, _ := table.Row(*got, i)
			b, _ := table.Row(x, from)
			if fmt.Sprint(a) != fmt.Sprint(b) {
				t.Errorf("%s: row %d is %v, not %v", describe(*got), i, a, b)
			}
		}
		for i, c := range x.Columns {
			if !slices.Equal(got.Columns[i].Levels, c.Levels) || got.Columns[i].Name != c.Name || got.Columns[i].Kind != c.Kind {
				t.Errorf("%s: column %d of %s", describe(*got), i, describe(x))
			}
		}
	}
}
