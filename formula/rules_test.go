package formula_test

import (
	"fmt"
	"math/rand/v2"
	"slices"
	"strings"
	"sync"
	"testing"
	"unsafe"

	"robuststats/api"
	"robuststats/formula"
)

// texts are formulas and others.
func texts() []string {
	random := rand.New(rand.NewPCG(9, 6))
	list := []string{"", "y", "y ~ ", "y ~ a^7", "y ~ (a", "y ~ a" + strings.Repeat("+a", 32), "y ~ first + second:first + power(first, 2)", strings.Repeat("y ~ a", 20000)}
	for range 100 {
		text, _ := drawnText(random, drawnNodes(random, random.IntN(20)))
		list = append(list, drawnName(random)+" ~ "+text, text)
	}
	return list
}

// formulas are those of all kinds, valid ones and others.
func formulas() []api.Formula {
	random := rand.New(rand.NewPCG(9, 7))
	list := []api.Formula{{}, {Response: "y"}, {Right: []api.Node{v("a")}}, {Response: "y", Right: []api.Node{op(api.FPlus), v("a")}}, {Response: "y", Right: []api.Node{v("a")}}}
	for range 200 {
		f := api.Formula{Response: drawnName(random), Right: drawnNodes(random, random.IntN(30))}
		list = append(list, f, api.Formula{Response: f.Response, Right: spoiled(random, slices.Clone(f.Right))})
	}
	return list
}

func results(f api.Formula) string {
	text, e := formula.Format(f)
	return fmt.Sprint(formula.Valid(f), text, e)
}

// R2: neither the nodes nor what stands behind their end are changed, and the latter is not read.
func TestArgumentsAreKept(t *testing.T) {
	for _, f := range formulas() {
		want := results(f)
		for _, behind := range [][]api.Node{{v("behind"), v("b"), {}}, {op(api.FPlus), {Op: -1}}, {hat(9)}} {
			long := append(slices.Clone(f.Right), behind...)
			before := slices.Clone(long)
			g := api.Formula{Response: f.Response, Right: long[:len(f.Right)]}
			if got := results(g); got != want || !slices.Equal(long, before) {
				t.Errorf("%.300v: %s, not %s; the nodes are %.300v", f, got, want, long)
			}
		}
	}
}

// R2: nodes of a result are new memory, up to the capacity of their list, and no later result is affected.
func TestResultsAreNew(t *testing.T) {
	for _, text := range texts() {
		f, at, e := formula.Parse(text)
		nodes := slices.Clone(f.Right)
		all := f.Right[:cap(f.Right)]
		for i := range all {
			all[i] = api.Node{Op: -1, Name: "overwritten", Num: 99}
		}
		if g, again, code := formula.Parse(text); !slices.Equal(g.Right, nodes) || g.Response != f.Response || again != at || code != e {
			t.Errorf("%.80q: %.300v, place %d, error %d, not %.300v, place %d, error %d", text, g, again, code, nodes, at, e)
		}
	}
}

// R2: no name of a result is a part of the text, or of another name. The language keeps one copy of each string of one byte, so that longer ones are compared.
func TestNamesAreNotPartsOfTheText(t *testing.T) {
	text := strings.Clone("first ~ first + second + power(third, 2):first + power(first, 2)")
	f, _, _ := formula.Parse(text)
	memory := []string{text}
	for _, name := range append([]string{f.Response}, namesOf(f.Right)...) {
		for _, other := range memory {
			if overlap(name, other) {
				t.Errorf("%q is a part of %q", name, other)
			}
		}
		memory = append(memory, name)
	}
	if len(memory) != 7 {
		t.Errorf("%q", memory)
	}
	written, _ := formula.Format(f)
	for _, name := range memory {
		if overlap(written, name) {
			t.Errorf("%q shares memory with %q", written, name)
		}
	}
}

func namesOf(nodes []api.Node) []string {
	var list []string
	for _, n := range nodes {
		if n.Name != "" {
			list = append(list, n.Name)
		}
	}
	return list
}

func overlap(a, b string) bool {
	x, y := uintptr(unsafe.Pointer(unsafe.StringData(a))), uintptr(unsafe.Pointer(unsafe.StringData(b)))
	return x < y+uintptr(len(b)) && y < x+uintptr(len(a))
}

// R3: nil and empty lists are equal.
func TestNilIsEmpty(t *testing.T) {
	for _, response := range []string{"", "y", "power"} {
		judges(t, api.Formula{Response: response}, false)
		judges(t, api.Formula{Response: response, Right: []api.Node{}}, false)
	}
}

// R1: any bytes are answered.
func TestAnyText(t *testing.T) {
	random := rand.New(rand.NewPCG(9, 8))
	for range 3000 {
		text := make([]byte, random.IntN(30))
		for i := range text {
			text[i] = byte(random.IntN(256))
			if random.IntN(8) > 0 {
				text[i] = "y~~ab01234567890+-*/:^(), power"[random.IntN(31)]
			}
		}
		agrees(t, string(text))
		agrees(t, "y ~ "+string(text))
		agrees(t, "y ~ a:"+string(text)+"b")
	}
}

// R6: calls at the same time have the results of single calls.
func TestCallsAreIndependent(t *testing.T) {
	var want []string
	read := func(text string) string {
		f, at, e := formula.Parse(text)
		return fmt.Sprint(f, at, e)
	}
	list, others := texts(), formulas()
	for _, text := range list {
		want = append(want, read(text))
	}
	for _, f := range others {
		want = append(want, results(f))
	}
	var all sync.WaitGroup
	for worker := range 4 {
		all.Go(func() {
			for i := range want {
				at := (i*7 + worker*11) % len(want)
				got := ""
				if at < len(list) {
					got = read(list[at])
				} else {
					got = results(others[at-len(list)])
				}
				if got != want[at] {
					t.Errorf("case %d: %.300s, not %.300s", at, got, want[at])
				}
			}
		})
	}
	all.Wait()
}
