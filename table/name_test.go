package table_test

import (
	"strings"
	"testing"

	"robuststats/api"
	"robuststats/table"
)

// P8.1: the bytes that a name begins with, and those that follow.
func TestNameBytes(t *testing.T) {
	const letters, others = "abcdefghijklmnopqrstuvwxyzABCDEFGHIJKLMNOPQRSTUVWXYZ", "0123456789_."
	for i := range 256 {
		c := string([]byte{byte(i)})
		if got, want := table.Name(c), strings.Contains(letters, c); got != want {
			t.Errorf("%q: %v", c, got)
		}
		for _, s := range []string{c + "x", c + "_.9", c + c} {
			if got, want := table.Name(s), isName(s); got != want {
				t.Errorf("%q: %v", s, got)
			}
		}
		for _, s := range []string{"x" + c, "x" + c + "y", "x1_." + c, "X" + c + c} {
			if got, want := table.Name(s), strings.Contains(letters+others, c); got != want {
				t.Errorf("%q: %v", s, got)
			}
		}
	}
}

// P8.1: a name has at most MaxName bytes, and at least one.
func TestNameLength(t *testing.T) {
	for n := range 3 * api.MaxName {
		for _, s := range []string{strings.Repeat("n", n), "N" + strings.Repeat(".", n), "n" + strings.Repeat("1", n)} {
			if got, want := table.Name(s), len(s) >= 1 && len(s) <= 32; got != want {
				t.Errorf("%q: %v", s, got)
			}
		}
	}
	if table.Name(strings.Repeat("n", 1<<20)) {
		t.Error("a name of 2^20 bytes")
	}
}

// P8.1: power alone is no name.
func TestNameReserved(t *testing.T) {
	for s, want := range map[string]bool{
		"power": false, "Power": true, "POWER": true, "power.": true, "power1": true, "powers": true, "powe": true, "xpower": true, "power ": false, "power\x00": false, "": false,
		"x\n": false, "\nx": false, "x y": false, "x:y": false, "y~x": false, "a-b": false, "caf\u00e9": false, "\u00e9": false, "\uff21": false, "x\u0661": false, "\u212a": false, "x.y_1": true, "x..": true, "a": true, "Z9": true,
	} {
		if table.Name(s) != want {
			t.Errorf("%q: %v", s, !want)
		}
	}
}
