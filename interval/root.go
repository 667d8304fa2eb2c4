package interval

import (
	"math/bits"

	"robuststats/api"
	"robuststats/rational"
)

const limbBits = 32

// Root returns an interval that contains a square root.
func Root(v api.Rat, bits int) (api.Interval, api.Errno) {
	if rational.Sign(v) < 0 || bits < 0 || bits > api.MaxBits {
		return api.Interval{}, api.ErrRange
	}
	unit := powerOfTwo(-bits)
	scaled := rational.Floor(rational.Mul(v, powerOfTwo(2*bits)))
	lo := rational.Mul(wholeRoot(api.Rat{Num: scaled}), unit)
	if rational.Compare(rational.Mul(lo, lo), v) == 0 {
		return around(lo), api.OK
	}
	return api.Interval{Lo: lo, Hi: rational.Add(lo, unit)}, api.OK
}

// wholeRoot returns the greatest integer whose square is at most n, for an integer n that is not negative.
func wholeRoot(n api.Rat) api.Rat {
	if rational.Sign(n) == 0 {
		return api.Rat{}
	}
	// Newton's steps fall from every number above the root, as the first one is, and never below the root, so that the step that does not fall has begun at it.
	root := powerOfTwo((bitLength(n) + 1) / 2)
	for {
		quotient, _ := rational.Div(n, root)
		middle := rational.Mul(rational.Add(root, quotient), powerOfTwo(-1))
		next := api.Rat{Num: rational.Floor(middle)}
		if rational.Compare(next, root) >= 0 {
			return root
		}
		root = next
	}
}

// bitLength returns the number of binary digits of a positive integer.
func bitLength(n api.Rat) int {
	last := len(n.Num.Mag) - 1
	return limbBits*last + bits.Len32(n.Num.Mag[last])
}

// powerOfTwo returns 2^k.
func powerOfTwo(k int) api.Rat {
	size := max(k, -k)
	limbs := make([]uint32, size/limbBits+1)
	limbs[size/limbBits] = 1 << (size % limbBits)
	if k < 0 {
		return api.Rat{Num: api.Int{Mag: []uint32{1}}, Den: limbs}
	}
	return api.Rat{Num: api.Int{Mag: limbs}}
}
