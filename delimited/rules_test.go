package delimited_test

import (
	"slices"
	"strings"
	"sync"
	"testing"
	"unsafe"

	"robuststats/api"
	"robuststats/delimited"
)

// guarded is a copy of records with more records and fields behind the ends, and the whole of that memory.
func guarded(records [][]string) (part [][]string, whole [][]string) {
	for _, record := range records {
		fields := append(slices.Clone(record), "behind", "\"", strings.Repeat("x", api.MaxText))
		whole = append(whole, fields)
		part = append(part, fields[:len(record)])
	}
	n := len(part)
	part = append(part, []string{"behind"}, nil, make([]string, api.MaxFields+1))
	return part[:n], append(whole, part[n:]...)
}

func cloned(records [][]string) [][]string {
	var list [][]string
	for _, record := range records {
		list = append(list, slices.Clip(slices.Clone(record)))
	}
	return slices.Clip(list)
}

// wrong are records that are refused.
func wrong() [][][]string {
	return [][][]string{{{}}, {{"a"}, nil}, {make([]string, api.MaxFields+1)}, slices.Repeat([][]string{{"a"}}, api.MaxRecords+1), {{strings.Repeat("a", api.MaxText)}}}
}

// R2: Format does not change the records, and reads nothing behind their ends.
func TestRecordsAreKept(t *testing.T) {
	for _, records := range append(lists(), wrong()...) {
		want, code := delimited.Format(cloned(records), ',')
		part, whole := guarded(records)
		before := cloned(whole)
		if got, e := delimited.Format(part, ','); got != want || e != code {
			t.Errorf("%.60q: %.60q, error %d, not %.60q, error %d", records, got, e, want, code)
		}
		if !same(whole, before) || !same(part, records) || !same(part[:len(part)+3], append(cloned(records), whole[len(records):]...)) {
			t.Errorf("%.60q: changed to %.60q", records, whole)
		}
	}
}

// R2: the fields of a result are new memory, up to the capacity of its lists, and no later result is affected.
func TestResultsAreNew(t *testing.T) {
	for _, want := range lists() {
		text, _ := delimited.Format(want, ',')
		got, _, _ := delimited.Parse(text, ',')
		for i, record := range got {
			if !slices.Equal(record, want[i]) {
				t.Fatalf("%q: record %d has changed to %q", text, i, record)
			}
			record = record[:cap(record)]
			for j := range record {
				record[j] = "overwritten"
			}
		}
		got = got[:cap(got)]
		for i := range got {
			got[i] = nil
		}
		reads(t, text, ',', want)
	}
}

// R2: no field is a part of the text, or of another field. The language keeps one copy of each string of one byte, so that longer ones are compared.
func TestFieldsAreNotPartsOfTheText(t *testing.T) {
	text := strings.Clone("plain,\"quoted\",\"wi\"\"th\"\nsecond,plain\n")
	records, _, _ := delimited.Parse(text, ',')
	memory := []string{text}
	for _, record := range records {
		for _, field := range record {
			for _, other := range memory {
				if overlap(field, other) {
					t.Errorf("%q is a part of %q", field, other)
				}
			}
			memory = append(memory, field)
		}
	}
	if len(memory) != 6 {
		t.Errorf("%q", records)
	}
}

func overlap(a, b string) bool {
	x, y := uintptr(unsafe.Pointer(unsafe.StringData(a))), uintptr(unsafe.Pointer(unsafe.StringData(b)))
	return x < y+uintptr(len(b)) && y < x+uintptr(len(a))
}

// R3: nil and empty lists are equal, of records and of fields.
func TestNilIsEmpty(t *testing.T) {
	writes(t, nil, ',', "")
	writes(t, [][]string{}, ',', "")
	for _, none := range [][]string{nil, {}} {
		refuses(t, [][]string{none}, ',', api.ErrForm)
		refuses(t, [][]string{{"a"}, none}, ',', api.ErrForm)
		refuses(t, [][]string{none}, 'x', api.ErrRange)
	}
}

// R6: calls at the same time have the results of single calls, whether they end in an error or not.
func TestCallsAreIndependent(t *testing.T) {
	var all sync.WaitGroup
	for range 4 {
		all.Go(func() {
			for range 200 {
				reads(t, "a,b\n", ',', [][]string{{"a", "b"}})
				stops(t, "a\n\"", ',', 2, api.ErrSyntax)
				reads(t, "a,\"b\nc\"\n", ',', [][]string{{"a", "b\nc"}})
				stops(t, strings.Repeat(",", api.MaxFields), ',', 1, api.ErrLimit)
				reads(t, "a,b\n", ';', [][]string{{"a,b"}})
				writes(t, [][]string{{"a,b", ";"}}, ';', "a,b;\";\"\n")
				refuses(t, [][]string{{}}, ';', api.ErrForm)
			}
		})
	}
	all.Wait()
}
