package delimited_test

import (
	"slices"
	"strings"
	"testing"

	"robuststats/api"
	"robuststats/delimited"
)

// P7.3: what is quoted, and what is not.
func TestFormat(t *testing.T) {
	for _, x := range []struct {
		records [][]string
		want    string
	}{
		{nil, ""}, {[][]string{{""}}, "\n"}, {[][]string{{"", ""}, {""}}, ",\n\n"}, {[][]string{{"a", "b c", " "}, {"d"}}, "a,b c, \nd\n"},
		{[][]string{{`"`}}, "\"\"\"\"\n"}, {[][]string{{`a"b`, `""`}}, "\"a\"\"b\",\"\"\"\"\"\"\n"}, {[][]string{{",", "a,"}}, "\",\",\"a,\"\n"}, {[][]string{{"\n", "a\nb"}}, "\"\n\",\"a\nb\"\n"}, {[][]string{{"\r", "\r\n"}}, "\"\r\",\"\r\n\"\n"}, {[][]string{{"a\r"}, {"b"}}, "\"a\r\"\nb\n"},
		{[][]string{{";", "\t", "|", "'", "\\", "\x00", "\xff", "\u00e9", "\u2028", "\v"}}, ";,\t,|,',\\,\x00,\xff,\u00e9,\u2028,\v\n"},
	} {
		writes(t, x.records, ',', x.want)
	}
}

// P7.3: each byte, alone and within a field, with each delimiter.
func TestFormatBytes(t *testing.T) {
	for _, delim := range []byte(delimiters) {
		for i := range 256 {
			c := string([]byte{byte(i)})
			for _, field := range []string{c, "x" + c, c + "x", c + c, "xx" + c + "x"} {
				want := field
				if strings.Contains("\"\r\n"+string(delim), c) {
					want = `"` + field + `"`
				}
				if c == `"` {
					want = `"` + strings.Join(strings.Split(field, `"`), `""`) + `"`
				}
				writes(t, [][]string{{field}}, delim, want+"\n")
				writes(t, [][]string{{"a", field}, {field, "b"}}, delim, "a"+string(delim)+want+"\n"+want+string(delim)+"b\n")
			}
		}
	}
}

// P7.3: the delimiter is checked first, then each record for fields, and then the limits.
func TestFormatErrors(t *testing.T) {
	none, many, long := []string{}, make([]string, api.MaxFields+1), []string{strings.Repeat("a", api.MaxText)}
	for i := range 256 {
		if delim := byte(i); strings.IndexByte(delimiters, delim) < 0 {
			for _, records := range [][][]string{nil, {{"a"}}, {none}, {many}, {long}, {many, none}} {
				refuses(t, records, delim, api.ErrRange)
			}
		}
	}
	a := []string{"a"}
	for _, records := range [][][]string{
		{none}, {nil}, {none, none}, {a, none}, {none, a}, {a, nil, a}, {many, none}, {none, many}, {long, none}, {none, long}, {many, long, nil},
		append(slices.Repeat([][]string{a}, api.MaxRecords), none), append(slices.Repeat([][]string{a}, 2*api.MaxRecords), none), make([][]string, api.MaxRecords+1), append([][]string{none}, slices.Repeat([][]string{long}, 2000)...),
	} {
		refuses(t, records, ';', api.ErrForm)
	}
}

// P7.3: the limits of records, of fields and of bytes.
func TestFormatLimits(t *testing.T) {
	a := []string{"a"}
	full := make([]string, api.MaxFields)
	for _, delim := range []byte(delimiters) {
		writes(t, slices.Repeat([][]string{a}, api.MaxRecords), delim, strings.Repeat("a\n", api.MaxRecords))
		refuses(t, slices.Repeat([][]string{a}, api.MaxRecords+1), delim, api.ErrLimit)
		line := strings.Repeat(string(delim), api.MaxFields-1) + "\n"
		writes(t, [][]string{full, a, full}, delim, line+"a\n"+line)
		writes(t, slices.Repeat([][]string{full}, api.MaxRecords), delim, strings.Repeat(line, api.MaxRecords))
		refuses(t, [][]string{append(full, "")}, delim, api.ErrLimit)
		refuses(t, [][]string{a, make([]string, 3*api.MaxFields), a}, delim, api.ErrLimit)
		refuses(t, slices.Repeat([][]string{append(full, "")}, api.MaxRecords), delim, api.ErrLimit)
	}
}

// P7.3: the bytes of the text count, with its delimiters, line feeds and quotation marks.
func TestFormatTextLimit(t *testing.T) {
	letters := func(n int) string { return strings.Repeat("a", n) }
	n := api.MaxText
	empty := slices.Repeat([][]string{make([]string, api.MaxFields)}, api.MaxRecords-1)
	for _, records := range [][][]string{
		{{letters(n - 1)}}, {{"", letters(n - 2)}}, {{letters(n - 2), ""}}, {{letters(n / 2), letters(n/2 - 2)}}, {{letters(n - 3)}, {"a"}}, {{letters(n - 2)}, {""}}, {{""}, {letters(n - 2)}},
		{{"\n" + letters(n-4)}}, {{letters(n-4) + "\r"}}, {{"," + letters(n-4)}}, {{`"` + letters(n-5)}}, {{strings.Repeat(`"`, n/2-2), ""}}, {{letters(n - 6), `"`}}, {{"\r\n"}, {letters(n - 6)}},
		{slices.Repeat([]string{letters(n/api.MaxFields - 1)}, api.MaxFields)}, slices.Repeat([][]string{{letters(n/api.MaxRecords - 1)}}, api.MaxRecords), append(slices.Clone(empty), []string{letters(n - len(empty)*api.MaxFields - 1)}),
	} {
		longest(t, records)
	}
	refuses(t, [][]string{{letters(n)}}, ',', api.ErrLimit)
	refuses(t, [][]string{{strings.Repeat(`"`, n/2)}}, ',', api.ErrLimit)
	refuses(t, slices.Repeat([][]string{slices.Repeat([]string{letters(n)}, api.MaxFields)}, api.MaxRecords), ',', api.ErrLimit)
}

// longest fails the test if the records do not have a text of MaxText bytes, or if they have one with a byte more in one of the fields.
func longest(t *testing.T, records [][]string) {
	t.Helper()
	text, e := delimited.Format(records, ',')
	if len(text) != api.MaxText || e != api.OK {
		t.Errorf("%.60q: %d bytes, error %d", records, len(text), e)
		return
	}
	reads(t, text, ',', records)
	for _, i := range []int{0, len(records) - 1} {
		for j := range records[i] {
			more := slices.Clone(records)
			more[i] = slices.Clone(records[i])
			more[i][j] += "a"
			refuses(t, more, ',', api.ErrLimit)
		}
	}
}

// Consequences: what is written is read back, and so is what has been read and written again.
func TestWrittenIsReadBack(t *testing.T) {
	for _, records := range lists() {
		for _, delim := range []byte(delimiters) {
			text, e := delimited.Format(records, delim)
			if e != api.OK {
				t.Fatalf("%q: error %d", records, e)
			}
			reads(t, text, delim, records)
			g := grammarOf(delim)
			if !g.derives(text) || !same(g.values(text), records) {
				t.Errorf("%q is not a text of %q", text, records)
			}
			reads(t, strings.TrimSuffix(text, "\n"), delim, records[:max(len(records)-lone(records), 0)])
		}
	}
}

// lone is 1 if the last record has no byte but its line end, without which it is not there.
func lone(records [][]string) int {
	if len(records) > 0 && slices.Equal(records[len(records)-1], []string{""}) {
		return 1
	}
	return 0
}

// Consequences: fields without special bytes are written as they are.
func TestPlainIsKept(t *testing.T) {
	for _, delim := range []byte(delimiters) {
		d := string(delim)
		for _, text := range []string{"\n", "a\n", "a b" + d + "c\n" + d + "\n\n'd'\n", d + d + d + "\n", "\x00\xff" + d + "\u00e9\n"} {
			writes(t, grammarOf(delim).values(text), delim, text)
		}
	}
}
