package leastsq_test

import (
	"cmp"
	"fmt"
	"runtime"
	"slices"
	"unsafe"

	"robuststats/api"
	"robuststats/leastsq"
	"robuststats/rational"
)

// arguments are those of all functions.
type arguments struct {
	x         [][]api.Rat
	y, b, row []api.Rat
	response  api.Rat
	moments   api.Moments
	add       bool
}

// results writes what all functions say.
func (a arguments) results() string {
	f, e := leastsq.Fit(a.x, a.y)
	r, g := leastsq.Residuals(a.x, a.y, a.b)
	m, h := leastsq.Gather(a.x, a.y)
	s, i := leastsq.Shift(a.moments, a.row, a.response, a.add)
	coef, rss, rank, j := leastsq.FromMoments(a.moments)
	return fmt.Sprintf("%s %d; %s %d; %s %d; %s %d; %v %d", showFit(f), e, show(r), g, showMoments(m), h, showMoments(s), i, solution{coef, rss, rank}, j)
}

const guard = 0xdeadbeef

// copies are lists with more elements behind their ends, and the whole of that memory.
type copies struct {
	limbs   [][]uint32
	numbers [][]api.Rat
	rows    [][][]api.Rat
}

// guarded copies a list with elements behind its end.
func guarded[T any](all *[][]T, list []T, copyOf func(T) T, behind ...T) []T {
	var long []T
	for _, x := range append(slices.Clone(list), behind...) {
		long = append(long, copyOf(x))
	}
	*all = append(*all, long)
	return long[:len(list)]
}

func limb(x uint32) uint32 { return x }

func (c *copies) number(x api.Rat) api.Rat {
	return api.Rat{Num: api.Int{Neg: x.Num.Neg, Mag: guarded(&c.limbs, x.Num.Mag, limb, guard, 0)}, Den: guarded(&c.limbs, x.Den, limb, guard, 0)}
}

func (c *copies) list(x []api.Rat) []api.Rat {
	return guarded(&c.numbers, x, c.number, rational.FromInt(guard), api.Rat{})
}

func (c *copies) matrix(m [][]api.Rat) [][]api.Rat {
	behind := [][]api.Rat{nil, {rational.FromInt(7)}}
	if len(m) > 0 {
		behind = append(behind, m[0])
	}
	return guarded(&c.rows, m, c.list, behind...)
}

func (c *copies) arguments(a arguments) arguments {
	m := api.Moments{N: a.moments.N, XX: c.matrix(a.moments.XX), XY: c.list(a.moments.XY), YY: c.number(a.moments.YY)}
	return arguments{x: c.matrix(a.x), y: c.list(a.y), b: c.list(a.b), row: c.list(a.row), response: c.number(a.response), moments: m, add: a.add}
}

// block is a piece of memory, with the list in it, because memory that nothing points to may be used again.
type block struct {
	from, to uintptr
	what     string
	kept     any
}

type blocks []block

// add adds the memory of a list up to its capacity.
func add[T any](b *blocks, what string, list []T) {
	if list = list[:cap(list)]; len(list) > 0 {
		from := uintptr(unsafe.Pointer(unsafe.SliceData(list)))
		*b = append(*b, block{from, from + uintptr(len(list))*unsafe.Sizeof(list[0]), what, list})
	}
}

// numbers adds the limbs of the numbers behind the end, too.
func (b *blocks) numbers(what string, list []api.Rat) {
	add(b, what, list)
	for _, x := range list[:cap(list)] {
		add(b, what+": numerator", x.Num.Mag)
		add(b, what+": denominator", x.Den)
	}
}

func (b *blocks) number(what string, x api.Rat) {
	add(b, what+": numerator", x.Num.Mag)
	add(b, what+": denominator", x.Den)
}

func (b *blocks) matrix(what string, m [][]api.Rat) {
	add(b, what, m)
	for _, row := range m[:cap(m)] {
		b.numbers(what, row)
	}
}

func (b *blocks) moments(what string, m api.Moments) {
	b.matrix(what+": XX", m.XX)
	b.numbers(what+": XY", m.XY)
	b.number(what+": YY", m.YY)
}

func (b *blocks) arguments(a arguments) {
	b.matrix("x", a.x)
	b.numbers("y", a.y)
	b.numbers("b", a.b)
	b.numbers("row", a.row)
	b.number("response", a.response)
	b.moments("moments", a.moments)
}

// results adds those of all functions.
func (b *blocks) results(a arguments) {
	f, _ := leastsq.Fit(a.x, a.y)
	add(b, "used", f.Used)
	b.numbers("coefficients", f.Coef)
	b.numbers("residuals", f.Residuals)
	b.numbers("leverage", f.Leverage)
	b.number("rss", f.RSS)
	r, _ := leastsq.Residuals(a.x, a.y, a.b)
	b.numbers("residuals alone", r)
	m, _ := leastsq.Gather(a.x, a.y)
	b.moments("gathered", m)
	s, _ := leastsq.Shift(a.moments, a.row, a.response, a.add)
	b.moments("shifted", s)
	coef, rss, _, _ := leastsq.FromMoments(a.moments)
	b.numbers("solution", coef)
	b.number("rss of moments", rss)
}

// shared returns what shares memory: two results, or one and an argument.
func shared(arguments, results blocks) []string {
	var both []string
	ours := slices.Clone(results)
	slices.SortFunc(ours, func(x, y block) int { return cmp.Compare(x.from, y.from) })
	for i, x := range ours[min(1, len(ours)):] {
		if ours[i].to > x.from {
			both = append(both, ours[i].what+" and "+x.what)
		}
	}
	for _, x := range arguments {
		for _, y := range ours {
			if x.from < y.to && y.from < x.to {
				both = append(both, x.what+" and "+y.what)
			}
		}
	}
	runtime.KeepAlive(arguments)
	runtime.KeepAlive(ours)
	return both
}
