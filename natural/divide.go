package natural

import (
	"math/bits"
	"slices"
)

const maxLimb = 1<<limbBits - 1

// Div returns the quotient and the remainder.
func Div(a, b []uint32) (q, r []uint32, ok bool) {
	a, b = known(a), known(b)
	switch {
	case len(b) == 0:
		return nil, nil, false
	case Compare(a, b) < 0:
		return nil, slices.Clone(a), true
	case len(b) == 1:
		q = slices.Clone(a)
		rest := divideByLimb(q, b[0])
		return trim(q), FromUint(uint64(rest)), true
	}
	q, r = divideLong(a, b)
	return q, r, true
}

// divideByLimb replaces a by its quotient and returns the remainder.
func divideByLimb(a []uint32, b uint32) uint32 {
	rest := uint64(0)
	for i := len(a) - 1; i >= 0; i-- {
		rest = rest<<limbBits | uint64(a[i])
		a[i] = uint32(rest / uint64(b))
		rest %= uint64(b)
	}
	return uint32(rest)
}

// divideLong is Knuth's algorithm D, for an a that is at least b and a b of two limbs or more.
func divideLong(a, b []uint32) (q, r []uint32) {
	// The estimates of the quotient's limbs are good only if the divisor's highest bit is set.
	shift := bits.LeadingZeros32(b[len(b)-1])
	rest := shiftLeft(a, shift)
	divisor := shiftLeft(b, shift)[:len(b)]
	q = make([]uint32, len(a)-len(b)+1)
	for i := len(q) - 1; i >= 0; i-- {
		q[i] = divideStep(rest[i:i+len(b)+1], divisor)
	}
	r = rest[:len(b)]
	shiftRight(r, shift)
	return trim(q), trim(r)
}

// divideStep subtracts from rest, which has one limb more than b, as many times b as it contains, and returns how many these are. Only the lower limbs of rest are written: its highest one would become 0 and is not read again.
func divideStep(rest, b []uint32) uint32 {
	n := len(b)
	guess := guessLimb(rest[n], rest[n-1], rest[n-2], b[n-1], b[n-2])
	if subProduct(rest[:n], b, guess) <= uint64(rest[n]) {
		return guess
	}
	// The guess looks at two limbs of b only and may be one too great.
	addProduct(rest[:n], b, 1)
	return guess - 1
}

// guessLimb returns the quotient of the three limbs a2, a1, a0 by the two limbs b1, b0, at most maxLimb.
func guessLimb(a2, a1, a0, b1, b0 uint32) uint32 {
	top := uint64(a2)<<limbBits | uint64(a1)
	guess, rest := top/uint64(b1), top%uint64(b1)
	for guess > maxLimb || guess*uint64(b0) > rest<<limbBits|uint64(a0) {
		guess--
		rest += uint64(b1)
		// A greater rest would overflow above, and already shows that the guess is right.
		if rest > maxLimb {
			break
		}
	}
	return uint32(guess)
}

// subProduct subtracts b x from a, which is as long as b, and returns the carry.
func subProduct(a, b []uint32, x uint32) uint64 {
	carry := uint64(0)
	for i, y := range b {
		carry += uint64(x) * uint64(y)
		low := uint32(carry)
		carry >>= limbBits
		if a[i] < low {
			carry++
		}
		a[i] -= low
	}
	return carry
}

// shiftLeft returns a times 2^shift with one limb more than a, for a shift below limbBits.
func shiftLeft(a []uint32, shift int) []uint32 {
	shifted := make([]uint32, len(a)+1)
	for i, limb := range a {
		wide := uint64(limb) << shift
		shifted[i] |= uint32(wide)
		shifted[i+1] = uint32(wide >> limbBits)
	}
	return shifted
}

// shiftRight replaces a by its quotient by 2^shift, for a shift below limbBits.
func shiftRight(a []uint32, shift int) {
	low := uint32(0)
	for i := len(a) - 1; i >= 0; i-- {
		wide := uint64(low)<<limbBits | uint64(a[i])
		low = a[i]
		a[i] = uint32(wide >> shift)
	}
}

// Root returns the integer part of the square root.
func Root(a []uint32) []uint32 {
	a = known(a)
	if len(a) == 0 {
		return nil
	}
	// Newton's method falls towards the root from any number above it, and the first step that does not fall has arrived.
	size := limbBits*len(a) - bits.LeadingZeros32(a[len(a)-1])
	root := powerOfTwo((size + 1) / 2)
	for {
		q, _, _ := Div(a, root)
		next := Add(root, q)
		shiftRight(next, 1)
		next = trim(next)
		if Compare(next, root) >= 0 {
			return root
		}
		root = next
	}
}

// powerOfTwo returns 2^k.
func powerOfTwo(k int) []uint32 {
	power := make([]uint32, k/limbBits+1)
	power[k/limbBits] = 1 << (k % limbBits)
	return power
}
