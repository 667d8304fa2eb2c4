package table_test

import (
	"fmt"
	"math/big"
	"math/rand/v2"
	"slices"
	"strconv"
	"strings"
	"testing"

	"robuststats/api"
	"robuststats/rational"
	"robuststats/table"
)

// The chapter's example.
func TestExample(t *testing.T) {
	fs := []api.Field{{Name: "x", Kind: api.Number, Unit: number(t, "1/100"), Missing: []string{"NA"}}, {Name: "g", Kind: api.Category}}
	builds(t, fs, split("250,a", "NA,b"), "2; x: 5/2 ?; g a|b: 0 1")
}

func TestBuild(t *testing.T) {
	builds(t, nil, nil, "0")
	builds(t, nil, [][]string{nil, {}, {}}, "3")
	builds(t, fields(t, "x g"), nil, "0; x:; g :")
	builds(t, fields(t, "z1 z2"), split("a,b", ","), "2")
	builds(t, fields(t, "x1 x2 g1"), split("1,2,3", "4,5,6"), "2; x1: 1 4; x2: 2 5; g1 3|6: 0 1")
	builds(t, fields(t, "z1 x1 z2 z3 g1 z4"), split("?,1,,x,b,1", "1/0,-2.50,NA,y,a,"), "2; x1: 1 -5/2; g1 b|a: 0 1")
	builds(t, fields(t, "g1 g2"), split("a,b", "b,a", "a,a"), "3; g1 a|b: 0 1 0; g2 b|a: 0 1 1")
}

// P8.2: what the missing codes of a field are, the other fields' are not; without codes no cell is missing.
func TestBuildMissing(t *testing.T) {
	fs := []api.Field{{Name: "x", Kind: api.Number, Unit: one(), Missing: []string{"", "-9", "NA"}}, {Name: "g", Kind: api.Category, Missing: []string{"-", "b"}}, {Name: "h", Kind: api.Category}}
	builds(t, fs, split(",,", "-9,-,-", "NA,b,b", "-9.0,-9,-9", "9,NA,NA", "9,,"), "6; x: ? ? ? -9 9 9; g |-9|NA: 0 ? ? 1 2 0; h |-|b|-9|NA: 0 1 2 3 4 0")
	builds(t, fields(t, "x g", "NA", "NA"), split("NA,NA", "NA,NA"), "2; x: ? ?; g : ? ?")
	stops(t, fields(t, "x"), split(""), 1, api.ErrForm)
	stops(t, fields(t, "x", "NA"), split("NA", "na"), 2, api.ErrForm)
	stops(t, fields(t, "x", "NA"), split("NA", " NA"), 2, api.ErrForm)
}

// P8.2: numbers in all forms, times units of all kinds.
func TestBuildNumbers(t *testing.T) {
	texts := strings.Fields("0 -0 7 -12 6/4 -1/3 2.50 -0.125 1e3 12e-1 5E-2 123456789012345678901234567890 -4294967296/3")
	for _, unit := range strings.Fields("1 -1 1/100 -3/7 60 4294967296 1/4294967296 100000000000000000000/3") {
		u, _ := new(big.Rat).SetString(unit)
		want := strconv.Itoa(len(texts)) + "; x:"
		for _, text := range texts {
			v, _ := new(big.Rat).SetString(text)
			want += " " + v.Mul(v, u).RatString()
		}
		builds(t, []api.Field{{Name: "x", Kind: api.Number, Unit: number(t, unit)}}, split(texts...), want)
	}
	for _, text := range []string{"", " 1", "1 ", "+1", "01", "1/0", ".5", "5.", "1e41", "x", "1,5", strings.Repeat("1", api.MaxDigits+1)} {
		stops(t, fields(t, "x"), [][]string{{"1"}, {text}}, 2, api.ErrForm)
	}
	builds(t, fields(t, "x"), split(strings.Repeat("1", api.MaxDigits)), "1; x: "+strings.Repeat("1", api.MaxDigits))
}

// P8.2: levels are texts, also empty ones and ones that are no names, in the order of their first appearance.
func TestBuildLevels(t *testing.T) {
	builds(t, fields(t, "g"), [][]string{{"b"}, {""}, {"a b"}, {"b"}, {"1"}, {"1.0"}, {"B"}, {"\x00"}, {""}, {"power"}, {"b "}}, "11; g b||a b|1|1.0|B|\x00|power|b : 0 1 2 0 3 4 5 6 1 7 8")
	levels := split(manyNames(api.MaxLevels)...)
	show := "; g " + strings.Join(manyNames(api.MaxLevels), "|") + ":"
	for i := range api.MaxLevels {
		show += " " + strconv.Itoa(i)
	}
	builds(t, fields(t, "g", "-"), levels, "32"+show)
	builds(t, fields(t, "g", "-"), append(slices.Clone(levels), []string{"-"}, []string{"n3"}, []string{"n31"}, []string{"n0"}), "36"+show+" ? 3 31 0")
	stops(t, fields(t, "g", "-"), append(slices.Clone(levels), []string{"-"}, []string{"n3"}, []string{"n32"}, []string{"n33"}), 35, api.ErrLimit)
	stops(t, fields(t, "g"), append(slices.Clone(levels), []string{""}), 33, api.ErrLimit)
	stops(t, fields(t, "g1 g2"), [][]string{{"a"}, {"b", "c"}}, 1, api.ErrShape)
}

// P8.2: the unit of a field that is no Number does not matter, nor do the codes of one that is skipped.
func TestBuildUnitsThatDoNotMatter(t *testing.T) {
	for _, unit := range append(invalid(), api.Rat{}, number(t, "7")) {
		fs := []api.Field{{Name: "g", Kind: api.Category, Unit: unit}, {Name: "z", Kind: api.Skip, Unit: unit, Missing: []string{"1"}}}
		builds(t, fs, split("1,1", "2,x"), "2; g 1|2: 0 1")
	}
	for _, unit := range append(invalid(), api.Rat{}) {
		stops(t, []api.Field{{Name: "g", Kind: api.Category}, {Name: "x", Kind: api.Number, Unit: unit}}, nil, 0, api.ErrForm)
	}
}

// P8.2: the limits of fields and of records.
func TestBuildLimits(t *testing.T) {
	var fs []api.Field
	for _, name := range manyNames(api.MaxFields) {
		fs = append(fs, api.Field{Name: name, Kind: api.Number, Unit: one()})
	}
	row := slices.Repeat([]string{"1/2"}, api.MaxFields)
	x, at, e := table.Build(fs, slices.Repeat([][]string{row}, api.MaxRecords))
	if at != 0 || e != api.OK || x.Rows != api.MaxRecords || len(x.Columns) != api.MaxFields || !isTable(x) {
		t.Errorf("%d rows, %d columns, row %d, error %d", x.Rows, len(x.Columns), at, e)
	}
	stops(t, fs, slices.Repeat([][]string{row}, api.MaxRecords+1), 0, api.ErrLimit)
	stops(t, append(fs, api.Field{Name: "z", Kind: api.Skip}), nil, 0, api.ErrLimit)
	stops(t, nil, make([][]string, api.MaxRecords+1), 0, api.ErrLimit)
	builds(t, nil, make([][]string, api.MaxRecords), "1024")
	stops(t, fs, append(slices.Repeat([][]string{row}, api.MaxRecords-1), row[1:]), api.MaxRecords, api.ErrShape)
}

// P8.2: the errors of fields, each before those that follow it, and all before those of records.
func TestBuildFieldErrors(t *testing.T) {
	good, noName, noKind := slices.Clip(fields(t, "x g z")), api.Field{Kind: 9}, api.Field{Name: "y", Kind: 9}
	records := split("1,2", "x,y,z")
	for i, x := range []struct {
		fields  []api.Field
		records [][]string
		want    api.Errno
	}{
		{make([]api.Field, api.MaxFields+1), records, api.ErrLimit}, {[]api.Field{noName, noKind}, make([][]string, api.MaxRecords+1), api.ErrLimit},
		{[]api.Field{noKind, noName}, records, api.ErrName}, {append(good, good[0]), records, api.ErrName}, {append(good, api.Field{Name: "z", Kind: 9}), records, api.ErrName}, {fields(t, "z z"), nil, api.ErrName}, {[]api.Field{{Name: "power", Kind: api.Skip}}, nil, api.ErrName}, {[]api.Field{{Name: strings.Repeat("n", api.MaxName+1), Kind: api.Category}}, nil, api.ErrName}, {[]api.Field{{Name: "", Kind: api.Skip}}, nil, api.ErrName},
		{append(good, noKind), records, api.ErrForm}, {[]api.Field{{Name: "x", Kind: 0}}, nil, api.ErrForm}, {[]api.Field{{Name: "x", Kind: -1, Unit: one()}}, nil, api.ErrForm}, {[]api.Field{{Name: "x", Kind: 4, Unit: one()}}, nil, api.ErrForm}, {append(good, api.Field{Name: "y", Kind: api.Number}), records, api.ErrForm},
	} {
		t.Run(strconv.Itoa(i), func(t *testing.T) { stops(t, x.fields, x.records, 0, x.want) })
	}
}

// P8.2: the first record that is wrong counts, its length before its cells, and of these the first one.
func TestBuildRecordErrors(t *testing.T) {
	fs := fields(t, "x1 g z x2", "NA")
	good := []string{"1", "a", "", "NA"}
	full := func(last ...[]string) [][]string {
		var records [][]string
		for _, level := range manyNames(api.MaxLevels) {
			records = append(records, []string{"1", level, "", "2"})
		}
		return append(records, last...)
	}
	for i, x := range []struct {
		records [][]string
		row     int
		want    api.Errno
	}{
		{[][]string{good, good[:3]}, 2, api.ErrShape}, {[][]string{nil, good}, 1, api.ErrShape}, {[][]string{append(good, ""), good}, 1, api.ErrShape}, {[][]string{good, {"x", "a", ""}}, 2, api.ErrShape}, {[][]string{good, {"x", "a", "", "1", "2"}}, 2, api.ErrShape},
		{[][]string{good, {"x", "a", "", "1"}, {}}, 2, api.ErrForm}, {[][]string{good, {"1", "a", "", "x"}, {}}, 2, api.ErrForm}, {[][]string{good, {}, {"x", "a", "", "1"}}, 2, api.ErrShape},
		{full([]string{"1", "new", "", "x"}), 33, api.ErrLimit}, {full([]string{"x", "new", "", "1"}), 33, api.ErrForm}, {full([]string{"1", "new", ""}), 33, api.ErrShape}, {full([]string{"1", "NA", "", "x"}), 33, api.ErrForm}, {full(good[:1], []string{"1", "new", "", "1"}), 33, api.ErrShape}, {full(append([]string{"1", "n5"}, good[2:]...), []string{"1", "new", "", "1"}), 34, api.ErrLimit},
	} {
		t.Run(strconv.Itoa(i), func(t *testing.T) { stops(t, fs, x.records, x.row, x.want) })
	}
}

// P8.2: tables that are drawn, written as records and built again.
func TestBuildDrawn(t *testing.T) {
	random := rand.New(rand.NewPCG(8, 2))
	for range 400 {
		fs, records, want := drawnRecords(random)
		got, row, e := table.Build(fs, records)
		if describe(got) != describe(want) || row != 0 || e != api.OK || !table.Valid(got) {
			t.Errorf("%v, %.60q: %s, row %d, error %d, not %s", fs, records, describe(got), row, e, describe(want))
		}
	}
}

// drawnRecords returns fields and records with their table.
func drawnRecords(random *rand.Rand) (fs []api.Field, records [][]string, want api.Table) {
	want.Rows = random.IntN(7)
	records = make([][]string, want.Rows)
	for i := range random.IntN(6) {
		f := api.Field{Name: "f" + strconv.Itoa(i), Kind: 1 + random.IntN(3), Missing: []string{"NA", "-"}[:random.IntN(3)]}
		unit := drawnNumber(random)
		for unit.Sign() == 0 {
			unit = drawnNumber(random)
		}
		f.Unit = fromBig(unit)
		c := api.Column{Name: f.Name, Kind: f.Kind}
		for row := range records {
			text, cell := drawnText(random, f, &c, unit)
			records[row] = append(records[row], text)
			c.Cells = append(c.Cells, cell)
		}
		fs = append(fs, f)
		if f.Kind != api.Skip {
			want.Columns = append(want.Columns, c)
		}
	}
	return fs, records, want
}

// drawnText returns the text of a cell, and the cell, for which it may add a level to the column.
func drawnText(random *rand.Rand, f api.Field, c *api.Column, unit *big.Rat) (string, api.Cell) {
	if len(f.Missing) > 0 && random.IntN(3) == 0 {
		return f.Missing[random.IntN(len(f.Missing))], api.Cell{Missing: true}
	}
	if f.Kind == api.Number {
		v := drawnNumber(random)
		return fmt.Sprintf("%d/%d", new(big.Int).Mul(v.Num(), big.NewInt(6)), new(big.Int).Mul(v.Denom(), big.NewInt(6))), api.Cell{Value: fromBig(new(big.Rat).Mul(v, unit))}
	}
	text := []string{"a", "b", "", "a b", "1/2"}[random.IntN(5)]
	if !slices.Contains(c.Levels, text) {
		c.Levels = append(c.Levels, text)
	}
	return text, api.Cell{Level: slices.Index(c.Levels, text)}
}

// P8.2: what is written as text by rational.Format is read back.
func TestBuildReadsBack(t *testing.T) {
	random := rand.New(rand.NewPCG(8, 3))
	var records [][]string
	want := api.Column{Name: "x", Kind: api.Number}
	for range 200 {
		x := fromBig(drawnNumber(random))
		records = append(records, []string{rational.Format(x)})
		want.Cells = append(want.Cells, api.Cell{Value: x})
	}
	got, _, _ := table.Build(fields(t, "x"), records)
	if describe(got) != describe(api.Table{Rows: 200, Columns: []api.Column{want}}) {
		t.Errorf("%s", describe(got))
	}
}
