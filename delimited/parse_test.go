package delimited_test

import (
	"math/rand/v2"
	"slices"
	"strings"
	"testing"

	"robuststats/api"
)

// The chapter's and the document's examples.
func TestExamples(t *testing.T) {
	reads(t, "a,\"b \"\"c\"\"\n\",\n", ',', [][]string{{"a", "b \"c\"\n", ""}})
	reads(t, "a,\"b \"\"c\"\"\"", ',', [][]string{{"a", `b "c"`}})
	reads(t, "\n", ',', [][]string{{""}})
	stops(t, `a"b`, ',', 1, api.ErrSyntax)
}

// P7.1: only four bytes are delimiters, and each of them separates fields, while the other three are bytes like others.
func TestDelimiters(t *testing.T) {
	for i := range 256 {
		delim := byte(i)
		if strings.IndexByte(delimiters, delim) < 0 {
			for _, text := range []string{"", "a", "a\"b", "a\n\r", string(delim), strings.Repeat("a", api.MaxText+1)} {
				stops(t, text, delim, 0, api.ErrRange)
			}
			continue
		}
		reads(t, "", delim, nil)
		reads(t, "a,b;c\td|e", delim, [][]string{strings.Split("a,b;c\td|e", string(delim))})
		reads(t, `"a,b;c`+"\t"+`d|e"`, delim, [][]string{{"a,b;c\td|e"}})
	}
}

// P7.1: line ends, and the end of the text.
func TestRecords(t *testing.T) {
	a, b, empty := []string{"a"}, []string{"b"}, []string{""}
	for _, x := range []struct {
		text string
		want [][]string
	}{
		{"", nil}, {"\n", [][]string{empty}}, {"\r\n", [][]string{empty}}, {"\n\n", [][]string{empty, empty}}, {"\r\n\n\r\n", [][]string{empty, empty, empty}}, {"a", [][]string{a}}, {"a\n", [][]string{a}}, {"a\r\n", [][]string{a}},
		{"a\nb", [][]string{a, b}}, {"a\r\nb", [][]string{a, b}}, {"a\nb\n", [][]string{a, b}}, {"a\r\nb\r\n", [][]string{a, b}}, {"a\n\nb", [][]string{a, empty, b}}, {"\na", [][]string{empty, a}}, {"a\n\n", [][]string{a, empty}},
		{`""`, [][]string{empty}}, {"\"\"\n", [][]string{empty}}, {"\"a\"\n\"b\"\r\n\"\"", [][]string{a, b, empty}},
	} {
		reads(t, x.text, ',', x.want)
	}
}

// P7.1: plain and quoted fields.
func TestFields(t *testing.T) {
	for _, x := range []struct {
		text string
		want []string
	}{
		{",", []string{"", ""}}, {",,", []string{"", "", ""}}, {"a,", []string{"a", ""}}, {",a", []string{"", "a"}}, {" a , b ", []string{" a ", " b "}}, {"'a,b'", []string{"'a", "b'"}}, {"\\,a", []string{"\\", "a"}}, {"\x00,\xff,\u00e9", []string{"\x00", "\xff", "\u00e9"}}, {"a\vb,\f", []string{"a\vb", "\f"}}, {"\ufeffa,\u2028", []string{"\ufeffa", "\u2028"}},
		{`"a"`, []string{"a"}}, {`"",""`, []string{"", ""}}, {`"a","b"`, []string{"a", "b"}}, {`a,"b",c`, []string{"a", "b", "c"}}, {`"a,b",c`, []string{"a,b", "c"}}, {`""""`, []string{`"`}}, {`""""""`, []string{`""`}}, {`"""a"""`, []string{`"a"`}}, {`"a"""`, []string{`a"`}}, {`"a"",""b"`, []string{`a","b`}},
		{"\"\n\"", []string{"\n"}}, {"\"\r\"", []string{"\r"}}, {"\"\r\n\",\"a\rb\n\"", []string{"\r\n", "a\rb\n"}}, {"\"a\n\"\"\nb\",c", []string{"a\n\"\nb", "c"}}, {"\"\x00\xff\"", []string{"\x00\xff"}},
	} {
		for _, end := range []string{"", "\n", "\r\n"} {
			reads(t, x.text+end, ',', [][]string{x.want})
			reads(t, "x\n"+x.text+end, ',', [][]string{{"x"}, x.want})
		}
	}
}

// P7.2: bytes that do not fit, and their lines.
func TestSyntaxErrors(t *testing.T) {
	for _, x := range []struct {
		text string
		line int
	}{
		{`a"`, 1}, {`a"b"`, 1}, {` "a"`, 1}, {`a,b"`, 1}, {"a\nb\n\nc\"\n\n", 4}, {`"a"b`, 1}, {`"a" `, 1}, {`"a"b"`, 1}, {`"a" ,b`, 1}, {"\"a\n\n\"b", 3}, {"\"\n\"\n\"\n\"x\n", 4}, {"a,\"\n\"\"\n\"'", 3},
		{"\r", 1}, {"a\r", 1}, {"\ra", 1}, {"a\rb\n", 1}, {"\r\r\n", 1}, {"a\n\r", 2}, {"\r\n\r\n\r,\n", 3}, {"\"a\"\r", 1}, {"\"a\n\"\rb", 2}, {"\"a\n\"\r\r\n", 2}, {"a,\r", 1},
		{`"`, 1}, {`"a`, 1}, {`"a""`, 1}, {`"""`, 1}, {`a,"`, 1}, {"\"\n", 2}, {"\"a\r\nb\n", 3}, {"a\n\"b\n\n\"\"\n,\n", 6}, {"a\n\n\"", 3}, {"\"a\"\"\n\"\"", 2},
		{"a\"\n\"", 1}, {"a\r\"", 1}, {"a\n\rb\n\"\n", 2},
	} {
		stops(t, x.text, ',', x.line, api.ErrSyntax)
	}
}

// P7.1, P7.2: all short texts, compared with the grammar.
func TestAllShortTexts(t *testing.T) {
	for _, delim := range []byte(delimiters) {
		longest := 5
		if delim == ',' {
			longest = 7
		}
		g := grammarOf(delim)
		extend(t, g, "a\"\r\n"+string(delim), "", longest, -1)
	}
}

// extend compares the results for a text and for all longer ones; place is that of a byte that does not fit, or -1.
func extend(t *testing.T, g grammar, alphabet, text string, longest, place int) {
	t.Helper()
	if place < 0 && !g.begins(text) {
		place = len(text) - 1
	}
	switch {
	case place >= 0:
		stops(t, text, g.delim, lineAt(text, place), api.ErrSyntax)
	case !g.derives(text):
		stops(t, text, g.delim, lineAt(text, len(text)), api.ErrSyntax)
	default:
		reads(t, text, g.delim, g.values(text))
	}
	if len(text) == longest {
		return
	}
	for _, c := range []byte(alphabet) {
		extend(t, g, alphabet, text+string(c), longest, place)
	}
}

// P7.1, P7.2: longer texts, made at random from parts that fit and of single bytes.
func TestDrawnTexts(t *testing.T) {
	random := rand.New(rand.NewPCG(7, 2))
	for _, delim := range []byte(delimiters) {
		g, d := grammarOf(delim), string(delim)
		parts := []string{"a" + d, "\"b\"" + d, "\"\"\"\n\"" + d, d, "\n", "a\n", "\"\r" + d + "\"\r\n", "\"\n\"\n", "\xff;,\n"}
		wrong := []string{"\"", "\r", "x", "\"\"", "\r\n", "\n"}
		fitting := 0
		for range 2000 {
			var text strings.Builder
			for range random.IntN(12) {
				text.WriteString(parts[random.IntN(len(parts))])
			}
			if random.IntN(2) == 0 {
				text.WriteString(wrong[random.IntN(len(wrong))] + parts[random.IntN(len(parts))])
			}
			if place := g.misfit(text.String()); place >= 0 {
				stops(t, text.String(), delim, lineAt(text.String(), place), api.ErrSyntax)
				continue
			}
			fitting++
			reads(t, text.String(), delim, g.values(text.String()))
		}
		if fitting < 500 || fitting > 1900 {
			t.Errorf("%d of 2000 texts fit", fitting)
		}
	}
}

// P7.2: MaxText bytes are read, and one more is an error ahead of all that the text contains.
func TestTextLimit(t *testing.T) {
	longest := strings.Repeat("a", api.MaxText)
	reads(t, longest, ',', [][]string{{longest}})
	quoted := `"` + longest[:api.MaxText-2] + `"`
	reads(t, quoted, ',', [][]string{{longest[:api.MaxText-2]}})
	stops(t, strings.Repeat("\n", api.MaxText), ',', api.MaxRecords+1, api.ErrLimit)
	stops(t, `"`+strings.Repeat("\n", api.MaxText-1), ',', api.MaxText, api.ErrSyntax)
	for _, text := range []string{longest + "a", longest + "\n", quoted + "\n", quoted + "x", `a"` + longest, "\r" + longest, "\"\n" + longest, strings.Repeat(",", 3*api.MaxText), strings.Repeat("\n", api.MaxText+1)} {
		stops(t, text, ',', 0, api.ErrLimit)
	}
}

// P7.2: the delimiter behind field MaxFields does not fit.
func TestFieldLimit(t *testing.T) {
	for _, delim := range []byte(delimiters) {
		d := string(delim)
		full := strings.Repeat("a"+d, api.MaxFields-1) + "a"
		record := slices.Repeat([]string{"a"}, api.MaxFields)
		for _, end := range []string{"", "\n", "\r\n"} {
			reads(t, full+end, delim, [][]string{record})
			reads(t, full+"\n"+full+end, delim, [][]string{record, record})
			reads(t, strings.Repeat(d, api.MaxFields-1)+end, delim, [][]string{make([]string, api.MaxFields)})
		}
		reads(t, full+"\n"+d, delim, [][]string{record, {"", ""}})
		reads(t, strings.Repeat("a"+d, api.MaxFields-1)+`"`+d+d+`"`, delim, [][]string{append(slices.Clone(record[1:]), d+d)})
		for _, rest := range []string{"", "a", d, "\n", "\"", "\r", "a\"", "\"b", "\nb\"\n"} {
			stops(t, full+d+rest, delim, 1, api.ErrLimit)
			stops(t, "x\n\"\n\n\"\r\n"+full+d+rest, delim, 5, api.ErrLimit)
		}
		stops(t, strings.Repeat(d, api.MaxFields), delim, 1, api.ErrLimit)
		stops(t, strings.Repeat("\"\n\""+d, api.MaxFields), delim, api.MaxFields+1, api.ErrLimit)
		stops(t, full+"\n"+full+"\n"+full+d, delim, 3, api.ErrLimit)
		stops(t, full+"\""+d, delim, 1, api.ErrSyntax)
		stops(t, full+"\r"+d, delim, 1, api.ErrSyntax)
		stops(t, full[1:]+"\n\"a\"b"+full+d, delim, 2, api.ErrSyntax)
		stops(t, full[:len(full)-1]+"\"\n"+d, delim, 2, api.ErrSyntax)
	}
}

// P7.2: the first byte behind MaxRecords records does not fit, whichever it is.
func TestRecordLimit(t *testing.T) {
	one := [][]string{{"a"}}
	for _, end := range []string{"\n", "\r\n"} {
		full := strings.Repeat("a"+end, api.MaxRecords)
		reads(t, full, ',', slices.Repeat(one, api.MaxRecords))
		reads(t, strings.TrimSuffix(full, end), ',', slices.Repeat(one, api.MaxRecords))
		for i := range 256 {
			stops(t, full+string([]byte{byte(i)}), ',', api.MaxRecords+1, api.ErrLimit)
		}
		for _, rest := range []string{"\r\n", "\ra", "\"a", "a\"", "\"\n", strings.Repeat(",", api.MaxFields), full} {
			stops(t, full+rest, ',', api.MaxRecords+1, api.ErrLimit)
		}
		stops(t, full[:len(full)-len(end)]+`"`+end+"a", ',', api.MaxRecords, api.ErrSyntax)
		stops(t, "\r"+full+"a", ',', 1, api.ErrSyntax)
		stops(t, full+full[:len(full)/2], ',', api.MaxRecords+1, api.ErrLimit)
	}
	reads(t, strings.Repeat("\n", api.MaxRecords), ',', slices.Repeat([][]string{{""}}, api.MaxRecords))
	stops(t, strings.Repeat("\n", api.MaxRecords+1), ',', api.MaxRecords+1, api.ErrLimit)
}

// P7.2: line feeds inside of quotes end no record, but they count for the lines.
func TestQuotedLineFeeds(t *testing.T) {
	text := `"` + strings.Repeat("\n", 2*api.MaxRecords) + `"`
	reads(t, text, ',', [][]string{{text[1 : len(text)-1]}})
	reads(t, strings.Repeat("\"\n\"\n", api.MaxRecords), ',', slices.Repeat([][]string{{"\n"}}, api.MaxRecords))
	stops(t, strings.Repeat("\"\n\"\n", api.MaxRecords)+"a", ',', 2*api.MaxRecords+1, api.ErrLimit)
	stops(t, text+"a", ',', 2*api.MaxRecords+1, api.ErrSyntax)
}

// P7.2: the longest texts with the most fields are read.
func TestLargeTexts(t *testing.T) {
	record := strings.Repeat(",", api.MaxFields-1) + "\n"
	reads(t, strings.Repeat(record, api.MaxRecords), ',', slices.Repeat([][]string{make([]string, api.MaxFields)}, api.MaxRecords))
	marks := strings.Repeat(`""`, api.MaxText/2-1)
	reads(t, `"`+marks+`"`, ',', [][]string{{marks[:len(marks)/2]}})
	stops(t, `"`+marks+`""`, ',', 0, api.ErrLimit)
	stops(t, `"`+marks, ',', 1, api.ErrSyntax)
}
