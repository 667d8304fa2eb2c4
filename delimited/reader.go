package delimited

import (
	"strings"

	"robuststats/api"
)

// A reader stops at the first byte that it cannot accept by a panic with the byte's place, as no function that waits for the rest of a field or of a record has anything left to do; Parse recovers it.
type reader struct {
	text  string
	delim byte
	at    int // the place of the next byte
}

// misfit is the place of a byte that does not fit, or of the end of a text that is not complete.
type misfit int

// excess is the place of a byte that a limit forbids.
type excess int

func (r *reader) records() [][]string {
	var list [][]string
	for r.at < len(r.text) {
		if len(list) == api.MaxRecords {
			panic(excess(r.at))
		}
		list = append(list, r.record())
	}
	return list
}

func (r *reader) record() []string {
	fields := []string{r.field()}
	for r.startsWith(string(r.delim)) {
		if len(fields) == api.MaxFields {
			panic(excess(r.at))
		}
		r.at++
		fields = append(fields, r.field())
	}
	r.skipLineEnd()
	return fields
}

func (r *reader) field() string {
	if r.startsWith(`"`) {
		return r.quoted()
	}
	return r.plain()
}

// Fields are clones because a part of the text would be the argument's memory.
func (r *reader) plain() string {
	rest := r.text[r.at:]
	if n := strings.IndexAny(rest, special(r.delim)); n >= 0 {
		rest = rest[:n]
	}
	r.at += len(rest)
	return strings.Clone(rest)
}

func (r *reader) quoted() string {
	r.at++
	from := r.at
	for {
		n := strings.IndexByte(r.text[r.at:], '"')
		if n < 0 {
			panic(misfit(len(r.text)))
		}
		r.at += n + 1
		if !r.startsWith(`"`) {
			return strings.Clone(strings.ReplaceAll(r.text[from:r.at-1], `""`, `"`))
		}
		r.at++
	}
}

// skipLineEnd is called where a field has ended without a delimiter behind it.
func (r *reader) skipLineEnd() {
	switch {
	case r.startsWith("\n"):
		r.at++
	case r.startsWith("\r\n"):
		r.at += 2
	case r.at < len(r.text):
		panic(misfit(r.at))
	}
}

func (r *reader) startsWith(s string) bool {
	return strings.HasPrefix(r.text[r.at:], s)
}
