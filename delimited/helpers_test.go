package delimited_test

import (
	"math/rand/v2"
	"regexp"
	"slices"
	"strings"
	"testing"

	"robuststats/api"
	"robuststats/delimited"
)

const delimiters = ",;\t|"

// grammar is P7.1 as a regular expression for one delimiter.
type grammar struct {
	delim byte
	text  *regexp.Regexp
}

func grammarOf(delim byte) grammar {
	d := regexp.QuoteMeta(string(delim))
	field := `(?:[^` + d + `"\r\n]*|"(?:[^"]|"")*")`
	record := field + `(?:` + d + field + `)*`
	return grammar{delim, regexp.MustCompile(`\A(?:` + record + `\r?\n)*` + record + `\z`)}
}

func (g grammar) derives(text string) bool {
	return g.text.MatchString(text)
}

// begins reports whether the grammar derives a text that begins with these bytes; if so, a quotation mark or a line feed completes one.
func (g grammar) begins(text string) bool {
	return g.derives(text) || g.derives(text+`"`) || g.derives(text+"\n")
}

// misfit returns the place of the first byte with which no text begins, or the length of a text that is not complete, or -1.
func (g grammar) misfit(text string) int {
	for i := range len(text) {
		if !g.begins(text[:i+1]) {
			return i
		}
	}
	if !g.derives(text) {
		return len(text)
	}
	return -1
}

// lineAt is the number of the line of a place.
func lineAt(text string, place int) int {
	line := 1
	for _, c := range []byte(text[:place]) {
		if c == '\n' {
			line++
		}
	}
	return line
}

// cut splits a text at those separators that have an even number of quotation marks ahead of them.
func cut(text string, separator byte) []string {
	var parts []string
	from, inside := 0, false
	for i := range len(text) {
		if text[i] == '"' {
			inside = !inside
		} else if text[i] == separator && !inside {
			parts = append(parts, text[from:i])
			from = i + 1
		}
	}
	return append(parts, text[from:])
}

// values returns the records of a text that the grammar derives.
func (g grammar) values(text string) [][]string {
	lines := cut(text, '\n')
	if lines[len(lines)-1] == "" {
		lines = lines[:len(lines)-1]
	}
	var records [][]string
	for _, line := range lines {
		var record []string
		// Outside of quotes there is a carriage return ahead of a line feed only; inside, a quotation mark stands behind it.
		for _, field := range cut(strings.TrimSuffix(line, "\r"), g.delim) {
			if strings.HasPrefix(field, `"`) {
				field = strings.Join(strings.Split(field[1:len(field)-1], `""`), `"`)
			}
			record = append(record, field)
		}
		records = append(records, record)
	}
	return records
}

func same(a, b [][]string) bool {
	return slices.EqualFunc(a, b, slices.Equal[[]string])
}

// reads fails the test if a text does not have these records.
func reads(t *testing.T, text string, delim byte, want [][]string) {
	t.Helper()
	if got, line, e := delimited.Parse(text, delim); !same(got, want) || line != 0 || e != api.OK {
		t.Errorf("%.60q with %q: %.60q, line %d, error %d, not %.60q", text, delim, got, line, e, want)
	}
}

// stops fails the test if a text is not refused with this error in this line.
func stops(t *testing.T, text string, delim byte, line int, want api.Errno) {
	t.Helper()
	if got, at, e := delimited.Parse(text, delim); len(got) != 0 || at != line || e != want {
		t.Errorf("%.60q with %q: %d records, line %d, error %d, not line %d, error %d", text, delim, len(got), at, e, line, want)
	}
}

// writes fails the test if the records do not have this text.
func writes(t *testing.T, records [][]string, delim byte, want string) {
	t.Helper()
	if got, e := delimited.Format(records, delim); got != want || e != api.OK {
		t.Errorf("%.60q with %q: %.60q, error %d, not %.60q", records, delim, got, e, want)
	}
}

// refuses fails the test if the records are written, or refused with another error.
func refuses(t *testing.T, records [][]string, delim byte, want api.Errno) {
	t.Helper()
	if got, e := delimited.Format(records, delim); got != "" || e != want {
		t.Errorf("%.60q with %q: %.60q, error %d, not %d", records, delim, got, e, want)
	}
}

// drawnText is made of bytes that mean something, and of others.
func drawnText(random *rand.Rand, n int, alphabet string) string {
	text := make([]byte, n)
	for i := range text {
		text[i] = alphabet[random.IntN(len(alphabet))]
	}
	return string(text)
}

// drawnRecords have fields of all bytes, in most cases of those that mean something.
func drawnRecords(random *rand.Rand) [][]string {
	all := make([]byte, 256)
	for i := range all {
		all[i] = byte(i)
	}
	alphabets := []string{"\"\r\nab,", "abc", ",;\t| ", "\"", string(all)}
	var records [][]string
	for range random.IntN(6) {
		var record []string
		for range 1 + random.IntN(5) {
			record = append(record, drawnText(random, random.IntN(6), alphabets[random.IntN(len(alphabets))]))
		}
		records = append(records, record)
	}
	return records
}

// lists are records with all kinds of fields.
func lists() [][][]string {
	all := [][][]string{
		nil, {}, {{""}}, {{"", ""}}, {{""}, {""}, {"", "", ""}}, {{"a"}}, {{"a", "b"}, {"c"}}, {{"a b", " c "}}, {{`"`}}, {{`""`, `"a"`, `a"`}}, {{"\r", "\n", "\r\n"}}, {{"a\n", "\nb"}, {"c\rd"}},
		{{",", ";", "\t", "|"}}, {{"a,b", "a;b", "a\tb", "a|b"}}, {{"\x00", "\xff\xfe", "\u00e9", "\u2028", "\v", "\f"}}, {{"'", "`", "\\", "\\n"}}, {{`a","b`, "x\"\n\"y"}},
	}
	random := rand.New(rand.NewPCG(7, 1))
	for range 300 {
		all = append(all, drawnRecords(random))
	}
	return all
}
