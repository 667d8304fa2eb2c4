package polynomial

import (
	"math/bits"

	"robuststats/api"
	"robuststats/interval"
	"robuststats/rational"
)

const limbBits = 32

// piece is an interval with the changes of the signs in Sturm's chain at its ends.
type piece struct {
	api.Interval
	atLo, atHi int
}

// Isolate returns intervals with one root each.
func Isolate(p []api.Rat, lo, hi api.Rat) ([]api.Interval, api.Errno) {
	x, e := interval.Make(lo, hi)
	switch degree := Degree(p); {
	case degree < 0:
		return nil, api.ErrForm
	case degree > api.MaxDegree:
		return nil, api.ErrLimit
	case e != api.OK:
		return nil, e
	}
	return isolated(sturm(p), x), api.OK
}

// isolated returns intervals with one root each, for the chain that sturm returns.
func isolated(chain [][]api.Rat, x api.Interval) []api.Interval {
	x, ok := nearRoots(chain[0], x)
	if !ok {
		return nil
	}
	var found []api.Interval
	pending := []piece{{x, changes(chain, x.Lo), changes(chain, x.Hi)}}
	for len(pending) > 0 {
		next := pending[len(pending)-1]
		pending = pending[:len(pending)-1]
		switch count := next.atLo - next.atHi; {
		case count == 1:
			found = append(found, exact(chain[0], next.Interval))
		case count > 1:
			lower, upper := halves(chain, next)
			pending = append(pending, upper, lower)
		}
	}
	return found
}

// halves divides a piece near its middle.
func halves(chain [][]api.Rat, x piece) (lower, upper piece) {
	at := middle(x.Interval)
	lower, upper = x, x
	lower.Hi, upper.Lo = at, copyOf(at)
	lower.atHi = changes(chain, at)
	upper.atLo = lower.atHi
	return lower, upper
}

// exact returns an interval with one root, or just the root if it is Hi.
func exact(f []api.Rat, x api.Interval) api.Interval {
	if signAt(f, x.Hi) == 0 {
		return point(x.Hi)
	}
	return x
}

// Refine returns a smaller interval with the same root.
func Refine(p []api.Rat, x api.Interval, bits int) (api.Interval, api.Errno) {
	degree := Degree(p)
	if degree < 0 || !interval.Valid(x) {
		return api.Interval{}, api.ErrForm
	}
	chain := sturm(p)
	switch {
	case !isIsolating(chain, x):
		return api.Interval{}, api.ErrForm
	case degree > api.MaxDegree:
		return api.Interval{}, api.ErrLimit
	case bits < 0 || bits > api.MaxBits:
		return api.Interval{}, api.ErrRange
	}
	return refined(chain[0], x, powerOfTwo(-bits)), api.OK
}

// isIsolating reports whether x is an interval as Isolate returns them, for the chain that sturm returns.
func isIsolating(chain [][]api.Rat, x api.Interval) bool {
	if rational.Compare(x.Lo, x.Hi) == 0 {
		return signAt(chain[0], x.Lo) == 0
	}
	return countRoots(chain, x) == 1
}

// refined returns a part of x with its root that is at most so wide, for an f without roots that occur more than once.
func refined(f []api.Rat, x api.Interval, width api.Rat) api.Interval {
	x, _ = nearRoots(f, x)
	x = exact(f, x)
	// Lo may be another root, so that only the sign at Hi tells on which side of the root a number is.
	above := signAt(f, x.Hi)
	for rational.Compare(interval.Width(x), width) > 0 {
		at := middle(x)
		switch signAt(f, at) {
		case 0:
			return point(at)
		case above:
			x.Hi = at
		default:
			x.Lo = at
		}
	}
	return x
}

// middle returns a number between the ends of x that differs from its middle by less than a quarter of its width. It is a multiple of a power of 2 and as short as the width allows, so that what is computed with it is fast even if the ends are long.
func middle(x api.Interval) api.Rat {
	width := interval.Width(x)
	unit := powerOfTwo(bitLength(numerator(width)) - bitLength(denominator(width)) - 3)
	units, _ := rational.Div(interval.Mid(x), unit)
	return rational.Mul(api.Rat{Num: rational.Floor(units)}, unit)
}

// bitLength returns the number of binary digits of a positive integer.
func bitLength(n api.Rat) int {
	highest := len(n.Num.Mag) - 1
	return limbBits*highest + bits.Len32(n.Num.Mag[highest])
}

// powerOfTwo returns 2^k.
func powerOfTwo(k int) api.Rat {
	size := max(k, -k)
	limbs := make([]uint32, size/limbBits+1)
	limbs[size/limbBits] = 1 << (size % limbBits)
	if k < 0 {
		return api.Rat{Num: api.Int{Mag: []uint32{1}}, Den: limbs}
	}
	return api.Rat{Num: api.Int{Mag: limbs}}
}
