package table_test

import (
	"fmt"
	"math/rand/v2"
	"slices"
	"strconv"
	"strings"
	"testing"

	"robuststats/api"
	"robuststats/rational"
	"robuststats/table"
)

// infers fails the test if the fields of records do not have these kinds, which are written as digits, with the header's names, the codes and the units that they shall have.
func infers(t *testing.T, header []string, records [][]string, missing []string, kinds string) {
	t.Helper()
	var want []api.Field
	for i, kind := range kinds {
		f := api.Field{Name: header[i], Kind: int(kind - '0'), Missing: missing}
		if kind == '1' {
			f.Unit = one()
		}
		want = append(want, f)
	}
	got, e := table.Infer(header, records, missing)
	if describeFields(got) != describeFields(want) || e != api.OK {
		t.Errorf("%.60q, %.60q, %.60q: %.200v, error %d, not %.200v", header, records, missing, got, e, want)
	}
}

// describeFields writes everything in fields, apart from which of their lists are nil.
func describeFields(fs []api.Field) string {
	text := ""
	for _, f := range fs {
		text += fmt.Sprintf("%q %d %q %v\n", f.Name, f.Kind, f.Missing, f.Unit)
	}
	return text
}

func TestInfer(t *testing.T) {
	infers(t, strings.Fields("a b c d"), [][]string{{"1", "x", "NA"}, {"NA", "2", "NA", "7"}, {"2/3", "", "", "8", "9"}}, []string{"NA", ""}, "1221")
	infers(t, strings.Fields("a b"), split("1,2", "3,4"), nil, "11")
	infers(t, strings.Fields("a b"), split("1,x", "3,4"), nil, "12")
	infers(t, strings.Fields("b a"), split("1,4", "3,x"), nil, "12")
	infers(t, strings.Fields("a b"), split("x,1", "3,4"), nil, "21")
	infers(t, strings.Fields("a b"), split("1,,", ",2"), nil, "22")
	infers(t, strings.Fields("a b"), split("1,,", ",2"), []string{""}, "11")
}

// P8.1: a column without a cell that counts is a Category.
func TestInferWithoutCells(t *testing.T) {
	infers(t, nil, nil, nil, "")
	infers(t, nil, split("1,2", "x"), []string{"1"}, "")
	infers(t, []string{"a"}, nil, nil, "2")
	infers(t, []string{"a"}, [][]string{nil, {}, {}}, nil, "2")
	infers(t, []string{"a"}, split("NA", "-9"), []string{"-9", "NA"}, "2")
	infers(t, []string{"a"}, split("NA", "-9", "-9.0"), []string{"-9", "NA"}, "1")
	infers(t, []string{"a"}, split("NA", "-9", "-9."), []string{"-9", "NA"}, "2")
	infers(t, []string{"a"}, split("", "1"), nil, "2")
	infers(t, []string{"a"}, split("na", "1"), []string{"NA"}, "2")
	infers(t, []string{"a"}, split(" NA", "1"), []string{"NA"}, "2")
}

// P8.1: a record that is too short has no cell, and what stands behind the last field is ignored.
func TestInferShortAndLong(t *testing.T) {
	header := strings.Fields("a b c")
	infers(t, header, [][]string{{"1"}, {"2", "3"}, {}, nil, {"4"}}, nil, "112")
	infers(t, header, [][]string{{"1", "2", "3", "x", "y"}, {}, {"4", "5", "6", "z"}}, nil, "111")
	infers(t, header, [][]string{{"1"}, {"2", "x"}, {"4", "5", "6"}}, nil, "121")
	infers(t, header, [][]string{{"x"}, {"2", "3"}, {"4", "5"}}, nil, "212")
	infers(t, []string{"a"}, [][]string{make([]string, 3000), {"1", "x"}}, []string{""}, "1")
}

// P8.1: a number is what rational.Parse reads.
func TestInferNumbers(t *testing.T) {
	long := strings.Repeat("9", api.MaxDigits)
	for _, text := range []string{"0", "-0", "-17", "6/4", "-6/4", "0.50", "1.250e-1", "1E40", long, long + "/" + long, "-" + long} {
		infers(t, []string{"a"}, split("1", text, "2"), nil, "1")
		infers(t, []string{"a"}, split(text), nil, "1")
	}
	for _, text := range []string{"", " 1", "1 ", "+1", "01", "1/0", ".5", "5.", "1e41", "0x1", "1_0", "--1", "1/-2", "NaN", "Inf", "1e", long + "1", "\u0661"} {
		infers(t, []string{"a"}, split("1", text, "2"), nil, "2")
		infers(t, []string{"a"}, split(text), nil, "2")
		infers(t, []string{"a"}, split("1", text, "2"), []string{"x", text}, "1")
		infers(t, []string{"a"}, split(text), []string{text, "x"}, "2")
	}
}

// P8.1: drawn records of a few texts, against the kinds by their definition.
func TestInferDrawn(t *testing.T) {
	random := rand.New(rand.NewPCG(8, 1))
	texts := []string{"1", "1", "2/3", "-4e3", "NA", "", "NA", "x"}
	for range 3000 {
		var header []string
		for i := range random.IntN(4) {
			header = append(header, "h"+strconv.Itoa(i))
		}
		var records [][]string
		for range random.IntN(5) {
			var record []string
			for range random.IntN(5) {
				record = append(record, texts[random.IntN(len(texts))])
			}
			records = append(records, record)
		}
		missing := [][]string{nil, {"NA"}, {""}, {"NA", ""}, {"1", "1", "NA"}, {"x", ""}}[random.IntN(6)]
		kinds := ""
		for i := range header {
			kinds += strconv.Itoa(kindAt(records, missing, i))
		}
		infers(t, header, records, missing, kinds)
	}
}

func kindAt(records [][]string, missing []string, at int) int {
	var cells []string
	for _, record := range records {
		if len(record) > at && !slices.Contains(missing, record[at]) {
			cells = append(cells, record[at])
		}
	}
	numbers := 0
	for _, cell := range cells {
		if _, ok := rational.Parse(cell); ok {
			numbers++
		}
	}
	if numbers > 0 && numbers == len(cells) {
		return api.Number
	}
	return api.Category
}

// manyNames are different names.
func manyNames(n int) []string {
	var list []string
	for i := range n {
		list = append(list, "n"+strconv.Itoa(i))
	}
	return list
}

// P8.1: the limits come before the names.
func TestInferErrors(t *testing.T) {
	few, many := make([][]string, api.MaxRecords), make([][]string, api.MaxRecords+1)
	bad := slices.Repeat([]string{"x"}, api.MaxFields+1)
	for i, x := range []struct {
		header  []string
		records [][]string
		want    api.Errno
	}{
		{manyNames(api.MaxFields + 1), nil, api.ErrLimit}, {bad, nil, api.ErrLimit}, {bad, many, api.ErrLimit}, {manyNames(3), many, api.ErrLimit}, {nil, many, api.ErrLimit}, {[]string{"1"}, many, api.ErrLimit}, {[]string{"x", "x"}, many, api.ErrLimit}, {manyNames(5000), few, api.ErrLimit},
		{bad[1:], few, api.ErrName}, {append(manyNames(api.MaxFields-1), "n0"), few, api.ErrName}, {append(manyNames(api.MaxFields-1), ""), nil, api.ErrName}, {[]string{"x", "y", "x"}, nil, api.ErrName}, {[]string{"", ""}, nil, api.ErrName},
		{[]string{"power"}, nil, api.ErrName}, {[]string{"x", "2"}, nil, api.ErrName}, {[]string{"x y"}, nil, api.ErrName}, {[]string{strings.Repeat("x", api.MaxName+1)}, nil, api.ErrName}, {[]string{"x", "y", "y"}, split("1,2,3"), api.ErrName},
	} {
		if got, e := table.Infer(x.header, x.records, []string{"NA"}); len(got) != 0 || e != x.want {
			t.Errorf("case %d: %v, error %d, not %d", i, got, e, x.want)
		}
	}
	infers(t, manyNames(api.MaxFields), few, nil, strings.Repeat("2", api.MaxFields))
	infers(t, manyNames(api.MaxFields), slices.Repeat([][]string{slices.Repeat([]string{"1"}, api.MaxFields)}, api.MaxRecords), nil, strings.Repeat("1", api.MaxFields))
	infers(t, []string{"x", "X", "x.", "x_", strings.Repeat("x", api.MaxName)}, few, nil, "22222")
}

// P8.1 and P8.2: the fields that are inferred from records make a table of them.
func TestInferredFieldsBuild(t *testing.T) {
	records := split("1,a,NA,1", "NA,b,NA,x", "1/2,,NA,NA")
	fs, e := table.Infer(strings.Fields("x g h i"), records, []string{"NA"})
	if e != api.OK {
		t.Fatal(e)
	}
	builds(t, fs, records, "3; x: 1 ? 1/2; g a|b|: 0 1 2; h : ? ? ?; i 1|x: 0 1 ?")
}
