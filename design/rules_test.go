package design_test

import (
	"fmt"
	"math"
	"math/rand/v2"
	"slices"
	"strings"
	"sync"
	"testing"

	"robuststats/api"
	"robuststats/design"
	"robuststats/rational"
	"robuststats/table"
	"robuststats/terms"
)

// matrices are drawn ones, some of them with invalid numbers or rows that are too short.
func matrices(seed uint64, n int) [][][]api.Rat {
	random := rand.New(rand.NewPCG(12, seed))
	list := make([][][]api.Rat, n)
	for i := range list {
		m := drawnMatrix(random, 1+random.IntN(5), 1+random.IntN(6))
		row := random.IntN(len(m))
		switch random.IntN(6) {
		case 0:
			m[row][random.IntN(len(m[0]))] = invalid()[random.IntN(len(invalid()))]
		case 1:
			m[row] = m[row][1:]
		}
		list[i] = m
	}
	return list
}

// R1: any tables, models and codings are answered, valid or not.
func TestAnyArguments(t *testing.T) {
	random := rand.New(rand.NewPCG(12, 9))
	seen := map[api.Errno]int{}
	for _, a := range drawn(10, 6000) {
		for range random.IntN(3) {
			spoilTable(random, &a.table)
			spoilModel(random, &a.model)
		}
		if random.IntN(10) == 0 {
			a.coding = []int{math.MinInt, math.MaxInt, -1, 5}[random.IntN(4)]
		}
		if table.Valid(a.table) && terms.Valid(a.model) {
			seen[agrees(t, a.table, a.model, a.coding)]++
		} else {
			fails(t, a.table, a.model, a.coding, api.ErrForm)
			seen[api.ErrForm]++
		}
	}
	if seen[api.OK] < 1000 || seen[api.ErrForm] < 1000 {
		t.Errorf("errors %v", seen)
	}
}

func spoilTable(random *rand.Rand, x *api.Table) {
	if len(x.Columns) == 0 {
		return
	}
	c := &x.Columns[random.IntN(len(x.Columns))]
	switch random.IntN(12) {
	case 0:
		c.Kind = []int{0, 1, 2, 3, math.MinInt}[random.IntN(5)]
	case 1:
		c.Name = []string{"", "y", "x0", "g0", "power", "other"}[random.IntN(6)]
	case 2:
		c.Levels = append(c.Levels, []string{"a0", "more"}[random.IntN(2)])
	case 3:
		c.Cells = c.Cells[:len(c.Cells)/2]
	case 4:
		x.Rows = []int{-1, 0, 1, 1025, math.MaxInt, math.MinInt}[random.IntN(6)]
	case 5:
		x.Columns = nil
	case 6:
		if len(c.Cells) > 0 {
			c.Cells[0] = api.Cell{Missing: random.IntN(2) == 0, Value: invalid()[random.IntN(7)], Level: random.IntN(9) - 4}
		}
	}
}

func spoilModel(random *rand.Rand, m *api.Model) {
	switch random.IntN(12) {
	case 0:
		m.Response = []string{"", "power", "x1", "g1", "other"}[random.IntN(5)]
	case 1:
		m.Terms = append(m.Terms, []api.Factor{{Name: "x0", Power: random.IntN(12) - 2}})
	case 2:
		m.Terms = append(m.Terms, nil)
	case 3:
		m.Terms = slices.Insert(m.Terms, 0, []api.Factor{{Name: "g0", Power: 1}, {Name: "x0", Power: math.MaxInt}})
	case 4:
		m.Terms = slices.Repeat(m.Terms, 12)
	}
}

// R1: any lists of rows are answered.
func TestAnyMatrix(t *testing.T) {
	wrong := 0
	for _, m := range matrices(11, 3000) {
		if slices.ContainsFunc(m, func(row []api.Rat) bool { return len(row) != len(m[0]) || len(row) == 0 }) {
			misshapen(t, m)
			wrong++
			continue
		}
		used, by := expectedAlias(m)
		dependences(t, m, showUsed(used), showRows(by))
	}
	if wrong < 300 {
		t.Errorf("only %d are not well-formed", wrong)
	}
}

// R2: no argument is changed, and what stands behind the end of a list is neither read nor changed.
func TestArgumentsAreKept(t *testing.T) {
	list := matrices(13, 1500)
	for i, a := range drawn(12, 1500) {
		want := results(a, list[i])
		var c copies
		b, m := arguments{c.table(a.table), c.model(a.model), a.coding}, c.matrix(list[i])
		before := fmt.Sprint(c)
		if got := results(b, m); got != want {
			t.Errorf("case %d: %.600s, not %.600s", i, got, want)
		}
		if fmt.Sprint(c) != before || describe(b.table) != describe(a.table) || fmt.Sprint(b.model) != fmt.Sprint(a.model) || fmt.Sprint(m) != fmt.Sprint(list[i]) {
			t.Errorf("case %d: arguments have changed", i)
		}
	}
}

// R2: no lists and names of results share memory with each other or with an argument.
func TestResultsAreNew(t *testing.T) {
	checked := 0
	list := matrices(15, 1500)
	for i, a := range drawn(14, 1500) {
		var given, ours blocks
		given.table(a.table)
		given.model(a.model)
		given.matrix("matrix", list[i])
		d, _ := design.Build(a.table, a.model, a.coding)
		again, _ := design.Build(a.table, a.model, a.coding)
		used, by, _ := design.Alias(list[i])
		ours.design("design", d)
		ours.design("second design", again)
		add(&ours, "used", used)
		ours.matrix("by", by)
		for _, text := range shared(given, ours) {
			t.Errorf("case %d: %s share memory", i, text)
		}
		checked += len(ours)
	}
	if checked < 20000 {
		t.Errorf("only %d pieces of memory", checked)
	}
}

// R2: names of columns are no parts of the table or of the model, also where they are equal to names there.
func TestNamesAreNew(t *testing.T) {
	x := data(t, "response first second group", "1 2 3 level", "4 5 6 other")
	m := model(t, "response ~ first * second + first:group + second:group:first")
	d, e := design.Build(x, m, api.Treatment)
	var given, ours blocks
	given.table(x)
	given.model(m)
	ours.design("design", d)
	if both := shared(given, ours); len(both) > 0 || e != api.OK {
		t.Errorf("%v, error %d", both, e)
	}
	if got := strings.Join(d.Names, " "); got != "(Intercept) first second first:second first:group=other first:second:group=other" {
		t.Errorf("%s", got)
	}
}

// R2: cells, factors and rows may share memory.
func TestArgumentsMayShareMemory(t *testing.T) {
	cells := []api.Cell{{Value: number(t, "-12345678901234567890/7")}, {Value: number(t, "2/3")}}
	x := api.Table{Rows: 2}
	for _, name := range []string{"y", "a", "b"} {
		x.Columns = append(x.Columns, api.Column{Name: name, Kind: api.Number, Cells: cells})
	}
	factors := []api.Factor{{Name: "a", Power: 1}, {Name: "b", Power: 1}}
	m := api.Model{Response: "y", Intercept: true, Terms: [][]api.Factor{factors[:1], factors[1:], factors}}
	agrees(t, x, m, api.Treatment)
	row := numbers(t, "12345678901234567890/7 -2/3")[0]
	used, by, e := design.Alias([][]api.Rat{row, row})
	d, f := design.Build(x, m, api.Treatment)
	var given, ours blocks
	given.table(x)
	given.matrix("matrix", [][]api.Rat{row})
	ours.design("design", d)
	ours.matrix("by", by)
	if both := shared(given, ours); len(both) > 0 || showUsed(used) != "10" || e+f != api.OK {
		t.Errorf("%v, %v, errors %d and %d", both, used, e, f)
	}
}

// R2 and R6: results that are overwritten do not change later ones.
func TestNoStateIsKept(t *testing.T) {
	list := matrices(17, 500)
	for i, a := range drawn(16, 500) {
		want := results(a, list[i])
		d, _ := design.Build(a.table, a.model, a.coding)
		used, by, _ := design.Alias(list[i])
		for _, row := range slices.Concat(d.X, by, [][]api.Rat{d.Y}) {
			for j := range row {
				clear(row[j].Num.Mag)
				row[j].Num.Neg = !row[j].Num.Neg
			}
		}
		clear(d.Names)
		clear(d.Rows)
		clear(used)
		if got := results(a, list[i]); got != want {
			t.Errorf("case %d: %s, and then %s", i, want, got)
		}
	}
}

// R3: nil and empty lists are equal.
func TestNilIsEmpty(t *testing.T) {
	zero := api.Rat{Num: api.Int{Mag: []uint32{}}, Den: []uint32{}}
	two := rational.FromInt(2)
	nils := api.Table{Rows: 2, Columns: []api.Column{{Name: "y", Kind: api.Number, Cells: []api.Cell{{}, {Value: two}}}, {Name: "g", Kind: api.Category, Levels: []string{"a"}, Cells: []api.Cell{{}, {Missing: true}}}}}
	empty := api.Table{Rows: 2, Columns: []api.Column{{Name: "y", Kind: api.Number, Levels: []string{}, Cells: []api.Cell{{Value: zero}, {Value: two}}}, {Name: "g", Kind: api.Category, Levels: []string{"a"}, Cells: []api.Cell{{Value: zero}, {Missing: true, Value: zero}}}}}
	for _, text := range []string{"y ~ 0", "y ~ 1", "y ~ g", "y ~ y:g - 1"} {
		m := model(t, text)
		for _, coding := range codings {
			d, e := design.Build(nils, m, coding)
			if len(m.Terms) == 0 {
				m.Terms = [][]api.Factor{}
			}
			f, g := design.Build(empty, m, coding)
			if show(d) != show(f) || e != api.OK || g != api.OK {
				t.Errorf("%s: %s, error %d, and %s, error %d", text, show(d), e, show(f), g)
			}
		}
	}
	for _, x := range []api.Table{{}, {Columns: []api.Column{}}} {
		for _, list := range [][][]api.Factor{nil, {}} {
			fails(t, x, api.Model{Response: "y", Terms: list}, api.Treatment, api.ErrName)
			fails(t, x, api.Model{Terms: list}, api.Treatment, api.ErrForm)
		}
	}
	dependences(t, [][]api.Rat{{zero, two, {}}}, "010", "0; 1; 0")
	misshapen(t, [][]api.Rat{nil})
	misshapen(t, [][]api.Rat{{}})
}

// R6: calls at the same time have the results of single calls.
func TestCallsAreIndependent(t *testing.T) {
	list, rows := drawn(18, 300), matrices(19, 300)
	var want []string
	for i, a := range list {
		want = append(want, results(a, rows[i]))
	}
	var all sync.WaitGroup
	for worker := range 4 {
		all.Go(func() {
			for i := range list {
				at := (i*7 + worker*11) % len(list)
				if got := results(list[at], rows[at]); got != want[at] {
					t.Errorf("case %d: %s, not %s", at, got, want[at])
				}
			}
		})
	}
	all.Wait()
}
