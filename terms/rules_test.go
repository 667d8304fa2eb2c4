package terms_test

import (
	"math/rand/v2"
	"slices"
	"strings"
	"sync"
	"testing"
	"unsafe"

	"robuststats/api"
	"robuststats/terms"
)

// R1: any nodes are answered, valid or not.
func TestAnyNodes(t *testing.T) {
	random := rand.New(rand.NewPCG(10, 5))
	wrong := 0
	for _, f := range formulas(random, 5000) {
		i := random.IntN(len(f.Right))
		switch random.IntN(4) {
		case 0:
			f.Right[i].Op += random.IntN(5) - 2
		case 1:
			f.Right[i].Num += random.IntN(5) - 2
		case 2:
			f.Right = slices.Delete(f.Right, i, i+1)
		case 3:
			f.Right = slices.Insert(f.Right, i, leaf(random, 3))
		}
		m, e := terms.Expand(f)
		switch {
		case e == api.OK && terms.Valid(m):
		case (e == api.ErrForm || e == api.ErrLimit) && show(m) == " ~":
			wrong++
		default:
			t.Errorf("%v: %q, error %d", f, show(m), e)
		}
	}
	if wrong < 1000 {
		t.Errorf("only %d errors", wrong)
	}
}

// R2: no argument is changed, and what stands behind the end of a list is neither read nor changed.
func TestArgumentsAreKept(t *testing.T) {
	random := rand.New(rand.NewPCG(10, 6))
	for _, f := range formulas(random, 1000) {
		m := drawnModel(random)
		want := results(f, m)
		for _, behind := range []api.Node{{}, {Op: api.FPlus}, {Op: api.FVar, Name: "behind"}} {
			nodes := append(slices.Clone(f.Right), behind, behind)
			keptNodes := slices.Clone(nodes)
			wide, keptTerms := widened(m)
			if got := results(api.Formula{Response: "y", Right: nodes[:len(f.Right)]}, wide); got != want {
				t.Errorf("%v, %v: %q, not %q", f, m, got, want)
			}
			if !slices.Equal(nodes, keptNodes) || !slices.EqualFunc(wide.Terms[:cap(wide.Terms)], keptTerms, func(s, t []api.Factor) bool { return slices.Equal(s[:cap(s)], t) }) {
				t.Errorf("%v, %v: an argument has changed", f, m)
			}
		}
	}
}

// widened returns a model whose lists have elements behind their ends, and a copy of all these elements.
func widened(m api.Model) (wide api.Model, all [][]api.Factor) {
	var list [][]api.Factor
	for _, t := range append(slices.Clone(m.Terms), term("behind"), term("behind")) {
		long := slices.Clip(append(slices.Clone(t), term("behind:behind")...))
		list, all = append(list, long[:len(t)]), append(all, slices.Clone(long))
	}
	m.Terms = slices.Clip(list)[:len(m.Terms)]
	return m, all
}

// R2: the lists of a result are new memory, up to their capacity, and share none with each other.
func TestResultsAreNew(t *testing.T) {
	for _, f := range formulas(rand.New(rand.NewPCG(10, 7)), 1000) {
		m, _ := terms.Expand(f)
		want := show(m)
		for _, list := range m.Terms {
			before := slices.Clone(list)
			all := list[:cap(list)]
			kept := slices.Clone(all)
			for i := range all {
				all[i] = api.Factor{Name: "overwritten", Power: -1}
			}
			if n := strings.Count(show(m), "overwritten"); n != len(before) {
				t.Errorf("%v: %d factors have changed, not %d", f, n, len(before))
			}
			copy(all, kept)
		}
		clear(m.Terms[:cap(m.Terms)])
		if again, _ := terms.Expand(f); show(again) != want {
			t.Errorf("%v: %q, and then %q", f, want, show(again))
		}
	}
}

// R2: no name of a result is a part of the argument, or of another name. The language keeps one copy of each string of one byte, so that longer ones are compared.
func TestNamesAreNew(t *testing.T) {
	f := read(t, "first * second + power(first, 2):second")
	f.Response = strings.Clone("response")
	memory := []string{f.Response}
	for _, n := range f.Right {
		memory = append(memory, n.Name)
	}
	m, _ := terms.Expand(f)
	names := []string{m.Response}
	for _, list := range m.Terms {
		for _, factor := range list {
			names = append(names, factor.Name)
		}
	}
	for _, name := range names {
		if slices.ContainsFunc(memory, func(other string) bool { return overlap(name, other) }) {
			t.Errorf("the memory of a name %q is not its own", name)
		}
		memory = append(memory, name)
	}
	if got := strings.Join(names, " "); got != "response first second first second second first" {
		t.Errorf("the names are %q", got)
	}
}

func overlap(a, b string) bool {
	x, y := uintptr(unsafe.Pointer(unsafe.StringData(a))), uintptr(unsafe.Pointer(unsafe.StringData(b)))
	return x < y+uintptr(len(b)) && y < x+uintptr(len(a))
}

// R3: nil and empty lists are equal.
func TestNilIsEmpty(t *testing.T) {
	fails(t, api.Formula{Response: "y"}, api.ErrForm)
	fails(t, api.Formula{Response: "y", Right: []api.Node{}}, api.ErrForm)
	judges(t, api.Model{Response: "y"}, true)
	judges(t, api.Model{Response: "y", Terms: [][]api.Factor{}}, true)
	judges(t, api.Model{Response: "y", Terms: [][]api.Factor{nil}}, false)
	judges(t, api.Model{Response: "y", Terms: [][]api.Factor{{}}}, false)
	judges(t, api.Model{}, false)
}

// R6: calls at the same time have the results of single calls.
func TestCallsAreIndependent(t *testing.T) {
	random := rand.New(rand.NewPCG(10, 8))
	list := formulas(random, 500)
	var models []api.Model
	var want []string
	for _, f := range list {
		m := drawnModel(random)
		models, want = append(models, m), append(want, results(f, m))
	}
	var all sync.WaitGroup
	for worker := range 4 {
		all.Go(func() {
			for i := range want {
				at := (i*7 + worker*11) % len(want)
				if got := results(list[at], models[at]); got != want[at] {
					t.Errorf("%v, %v: %q, not %q", list[at], models[at], got, want[at])
				}
			}
		})
	}
	all.Wait()
}
