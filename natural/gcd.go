package natural

import (
	"math/bits"
	"slices"
)

// steps are some steps of Euclid's algorithm taken together. They turn x and y into ax x - ay y and by y - bx x; if their number is odd, into ay y - ax x and bx x - by y. All four fit into a limb.
type steps struct {
	ax, ay, bx, by uint64
	odd            bool
}

// Gcd returns the greatest common divisor.
func Gcd(a, b []uint32) []uint32 {
	x, y := known(a), known(b)
	if Compare(x, y) < 0 {
		x, y = y, x
	}
	for len(y) > 2 {
		x, y = reduce(x, y)
	}
	if len(y) == 0 {
		return slices.Clone(x)
	}
	_, rest, _ := Div(x, y)
	v, _ := Uint(y)
	w, _ := Uint(rest)
	return FromUint(gcdUint(v, w))
}

// gcdUint is Euclid's algorithm for numbers of 64 bits.
func gcdUint(v, w uint64) uint64 {
	for w != 0 {
		v, w = w, v%w
	}
	return v
}

// reduce returns two later members of Euclid's sequence from x and y, where x is at least y and y has more than two limbs. It is Lehmer's method: the highest bits tell most quotients, and a division of the whole numbers is needed only where they tell none.
func reduce(x, y []uint32) (nextX, nextY []uint32) {
	shift := bits.LeadingZeros32(x[len(x)-1])
	s := foresee(highBits(x, len(x), shift), highBits(y, len(x), shift))
	switch {
	case s.ay == 0:
		_, rest, _ := Div(x, y)
		return y, rest
	case s.odd:
		return difference(s.ay, y, s.ax, x), difference(s.bx, x, s.by, y)
	}
	return difference(s.ax, x, s.ay, y), difference(s.by, y, s.bx, x)
}

// foresee returns steps that are right for all numbers whose highest bits are x and y, where x is at least y.
func foresee(x, y uint64) steps {
	sure := steps{ax: 1, by: 1}
	next := sure
	// The lower bits change what the steps leave by less than ay and by. So the steps are right as long as the smaller remainder cannot fall below 0 and the greater one stays the greater one (Collins). From y >= by follows by < 2^32, since by x is at most the first x.
	for y >= next.by && x-y >= next.ay+next.by {
		sure = next
		q := x / y
		x, y = y, x%y
		next = steps{ax: sure.bx, ay: sure.by, bx: sure.ax + q*sure.bx, by: sure.ay + q*sure.by, odd: !sure.odd}
	}
	return sure
}

// highBits returns 64 bits of a: those that stand where a number of n limbs, of which the highest one begins with shift bits 0, has its highest 64 bits.
func highBits(a []uint32, n, shift int) uint64 {
	high := uint64(limbAt(a, n-1))<<limbBits | uint64(limbAt(a, n-2))
	return high<<shift | uint64(limbAt(a, n-3))>>(limbBits-shift)
}

// limbAt returns a limb of a, also of those that are 0 and not listed.
func limbAt(a []uint32, i int) uint32 {
	if i < len(a) {
		return a[i]
	}
	return 0
}

// difference returns p a - q b, if that is neither negative nor longer than a and b; p and q fit into a limb.
func difference(p uint64, a []uint32, q uint64, b []uint32) []uint32 {
	d := make([]uint32, max(len(a), len(b)))
	plus, minus, borrow := uint64(0), uint64(0), uint64(0)
	for i := range len(d) {
		plus += p * uint64(limbAt(a, i))
		minus += q * uint64(limbAt(b, i))
		limb := uint64(uint32(plus)) - uint64(uint32(minus)) - borrow
		d[i] = uint32(limb)
		borrow = limb >> 63
		plus >>= limbBits
		minus >>= limbBits
	}
	return trim(d)
}
