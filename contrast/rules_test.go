package contrast_test

import (
	"cmp"
	"math/rand/v2"
	"slices"
	"sync"
	"testing"
	"unsafe"

	"robuststats/api"
	"robuststats/contrast"
)

// R1: any numbers are answered.
func TestAnyNumbers(t *testing.T) {
	random := rand.New(rand.NewPCG(11, 2))
	for range 20000 {
		coding, levels := random.IntN(8)-2, random.IntN(80)-20
		if random.IntN(4) == 0 {
			coding = int(random.Uint64())
		}
		if random.IntN(4) == 0 {
			levels = int(random.Uint64())
		}
		if !slices.Contains(codings, coding) || levels < 1 || levels > 32 {
			outOfRange(t, coding, levels)
		} else if m, e := contrast.Matrix(coding, levels); show(m) != expected(coding, levels) || e != api.OK {
			t.Errorf("coding %d, %d levels: %s, error %d", coding, levels, show(m), e)
		}
	}
}

// R2: the levels are not changed, and what stands behind their end is neither read nor changed.
func TestLevelsAreKept(t *testing.T) {
	random := rand.New(rand.NewPCG(11, 3))
	for coding := 0; coding <= 5; coding++ {
		for n := range 36 {
			list := drawnLevels(random, n)
			want := results(coding, list)
			for _, behind := range []string{"", "behind"} {
				long := append(slices.Clone(list), behind, behind)
				before := slices.Clone(long)
				if got := results(coding, long[:n]); got != want || !slices.Equal(long, before) {
					t.Errorf("coding %d, levels %q: %s, not %s; the levels are %q", coding, list, got, want, long)
				}
			}
		}
	}
}

// A block is a piece of memory.
type block struct {
	from, to uintptr
	what     string
}

// memory is that of a list up to its capacity.
func memory[T any](what string, list []T) []block {
	list = list[:cap(list)]
	if len(list) == 0 {
		return nil
	}
	from := uintptr(unsafe.Pointer(unsafe.SliceData(list)))
	return []block{{from, from + uintptr(len(list))*unsafe.Sizeof(list[0]), what}}
}

func memoryOfMatrix(m [][]api.Rat) []block {
	list := memory("matrix", m)
	for _, row := range m {
		list = append(list, memory("row", row)...)
		for _, x := range row {
			list = append(list, memory("numerator", x.Num.Mag)...)
			list = append(list, memory("denominator", x.Den)...)
		}
	}
	return list
}

// shared reports the first two blocks with common memory.
func shared(list []block) (what string, ok bool) {
	slices.SortFunc(list, func(x, y block) int { return cmp.Compare(x.from, y.from) })
	for i := 1; i < len(list); i++ {
		if list[i-1].to > list[i].from {
			return list[i-1].what + " and " + list[i].what, true
		}
	}
	return "", false
}

// R2: no lists of results share memory with each other or with an argument.
func TestResultsAreNew(t *testing.T) {
	for _, coding := range codings {
		for n := 1; n <= 32; n++ {
			list := levels(n)
			first, _ := contrast.Matrix(coding, n)
			second, _ := contrast.Matrix(coding, n)
			names, _ := contrast.Names(coding, list)
			again, _ := contrast.Names(coding, list)
			all := slices.Concat(memoryOfMatrix(first), memoryOfMatrix(second), memory("levels", list), memory("names", names), memory("names", again))
			if what, ok := shared(all); ok {
				t.Errorf("coding %d, %d levels: %s", coding, n, what)
			}
			if len(memoryOfMatrix(first)) <= n && n > 1 {
				t.Errorf("coding %d, %d levels: no memory is compared", coding, n)
			}
		}
	}
}

// R2: no name is a part of a level.
func TestNamesAreNew(t *testing.T) {
	for _, coding := range codings {
		list := levels(32)
		names, _ := contrast.Names(coding, list)
		var all []block
		for _, s := range slices.Concat(list, names) {
			all = append(all, memory(s, unsafe.Slice(unsafe.StringData(s), len(s)))...)
		}
		if what, ok := shared(all); ok || len(all) < 63 {
			t.Errorf("coding %d: %d texts, shared are %q", coding, len(all), what)
		}
	}
}

// R2 and R6: a result that is overwritten does not change a later one.
func TestNoStateIsKept(t *testing.T) {
	for _, coding := range codings {
		for n := 1; n <= 32; n++ {
			list := levels(n)
			want := results(coding, list)
			m, _ := contrast.Matrix(coding, n)
			for _, row := range m {
				for j := range row {
					clear(row[j].Num.Mag)
					row[j].Num.Neg = !row[j].Num.Neg
				}
			}
			names, _ := contrast.Names(coding, list)
			clear(names)
			if got := results(coding, list); got != want {
				t.Errorf("coding %d, %d levels: %s, and then %s", coding, n, want, got)
			}
		}
	}
}

// R6: calls at the same time have the results of single calls.
func TestCallsAreIndependent(t *testing.T) {
	var want [6][36]string
	for coding := range want {
		for n := range want[coding] {
			want[coding][n] = results(coding, levels(n))
		}
	}
	var all sync.WaitGroup
	for worker := range 4 {
		all.Go(func() {
			for i := range 6 * 36 {
				at := (i*7 + worker*11) % (6 * 36)
				coding, n := at/36, at%36
				if got := results(coding, levels(n)); got != want[coding][n] {
					t.Errorf("coding %d, %d levels: %s, not %s", coding, n, got, want[coding][n])
				}
			}
		})
	}
	all.Wait()
}
