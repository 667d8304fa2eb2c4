package contrast_test

import (
	"math/rand/v2"
	"strings"
	"testing"

	"robuststats/api"
	"robuststats/contrast"
)

// P11.2: the four codings.
func TestNames(t *testing.T) {
	list := []string{"low", "middle", "high"}
	hasNames(t, api.Indicator, list, "=low", "=middle", "=high")
	hasNames(t, api.Treatment, list, "=middle", "=high")
	hasNames(t, api.SumToZero, list, ".1", ".2")
	hasNames(t, api.Helmert, list, ".1", ".2")
}

// P11.2: there is no column but that of Indicator.
func TestNamesOfOneLevel(t *testing.T) {
	hasNames(t, api.Indicator, []string{"only"}, "=only")
	hasNames(t, api.Treatment, []string{"only"})
	hasNames(t, api.SumToZero, []string{"only"})
	hasNames(t, api.Helmert, []string{"only"})
}

// P11.2: any text may be a level, and levels may be equal.
func TestNamesOfAnyLevels(t *testing.T) {
	long := strings.Repeat("w", 1<<16)
	list := []string{"", "", "=", ".1", "a b", "\x00\xff", "a:b", "\u00e9\n", "a", "a", long}
	hasNames(t, api.Indicator, list, "=", "=", "==", "=.1", "=a b", "=\x00\xff", "=a:b", "=\u00e9\n", "=a", "=a", "="+long)
	hasNames(t, api.Treatment, list, "=", "==", "=.1", "=a b", "=\x00\xff", "=a:b", "=\u00e9\n", "=a", "=a", "="+long)
	hasNames(t, api.SumToZero, list, ".1", ".2", ".3", ".4", ".5", ".6", ".7", ".8", ".9", ".10")
	hasNames(t, api.Helmert, list, ".1", ".2", ".3", ".4", ".5", ".6", ".7", ".8", ".9", ".10")
}

// P11.2: all numbers of levels.
func TestAllNames(t *testing.T) {
	for _, coding := range codings {
		for n := 1; n <= 32; n++ {
			hasNames(t, coding, levels(n), expectedNames(coding, levels(n))...)
			hasNames(t, coding, make([]string, n), expectedNames(coding, make([]string, n))...)
		}
	}
}

// P11.2: drawn levels.
func TestDrawnNames(t *testing.T) {
	random := rand.New(rand.NewPCG(11, 1))
	for range 2000 {
		list := drawnLevels(random, 1+random.IntN(32))
		coding := codings[random.IntN(4)]
		hasNames(t, coding, list, expectedNames(coding, list)...)
	}
}

func drawnLevels(random *rand.Rand, n int) []string {
	var list []string
	for range n {
		b := make([]byte, random.IntN(5))
		for i := range b {
			b[i] = byte(random.IntN(256))
		}
		list = append(list, string(b))
	}
	return list
}

// P11.2: ErrRange is that of Matrix, and each column has a name.
func TestNamesFitMatrix(t *testing.T) {
	for coding := -1; coding <= 6; coding++ {
		for n := range 40 {
			m, e := contrast.Matrix(coding, n)
			names, f := contrast.Names(coding, levels(n))
			if e != f || e == api.OK && len(names) != len(m[0]) {
				t.Errorf("coding %d, %d levels: %s, error %d, and names %q, error %d", coding, n, show(m), e, names, f)
			}
		}
	}
}

// R3: a nil and an empty list have no level.
func TestNilIsEmpty(t *testing.T) {
	for coding := 0; coding <= 5; coding++ {
		noNames(t, coding, nil)
		noNames(t, coding, []string{})
		noNames(t, coding, levels(3)[:0])
	}
}
