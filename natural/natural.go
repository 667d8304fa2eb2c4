// Package natural is layer 1, natural numbers of any size: see shared/doc/01-natural.md.
package natural

import (
	"cmp"
	"math/bits"
	"slices"
)

const limbBits = 32

// maxPower is the greatest exponent of Power.
const maxPower = 64

// Valid reports whether a list of limbs is a natural number.
func Valid(a []uint32) bool {
	return len(a) == 0 || a[len(a)-1] != 0
}

// known returns a, or 0 in its place if a is not Valid.
func known(a []uint32) []uint32 {
	if !Valid(a) {
		return nil
	}
	return a
}

// trim shortens a list to one that is Valid and has the same value.
func trim(a []uint32) []uint32 {
	for len(a) > 0 && a[len(a)-1] == 0 {
		a = a[:len(a)-1]
	}
	return a
}

// FromUint returns a natural number.
func FromUint(v uint64) []uint32 {
	return trim([]uint32{uint32(v), uint32(v >> limbBits)})
}

// Uint returns the value of a natural number that fits into 64 bits.
func Uint(a []uint32) (v uint64, ok bool) {
	a = known(a)
	if len(a) > 2 {
		return 0, false
	}
	for i, limb := range a {
		v |= uint64(limb) << (limbBits * i)
	}
	return v, true
}

// Compare compares two natural numbers.
func Compare(a, b []uint32) int {
	a, b = known(a), known(b)
	if len(a) != len(b) {
		return cmp.Compare(len(a), len(b))
	}
	for i := len(a) - 1; i >= 0; i-- {
		if a[i] != b[i] {
			return cmp.Compare(a[i], b[i])
		}
	}
	return 0
}

// Add returns a + b.
func Add(a, b []uint32) []uint32 {
	a, b = known(a), known(b)
	if len(a) < len(b) {
		a, b = b, a
	}
	sum := make([]uint32, len(a)+1)
	carry := uint64(0)
	for i := range len(a) {
		carry += uint64(a[i])
		if i < len(b) {
			carry += uint64(b[i])
		}
		sum[i] = uint32(carry)
		carry >>= limbBits
	}
	sum[len(a)] = uint32(carry)
	return trim(sum)
}

// Sub returns a - b, if that is not negative.
func Sub(a, b []uint32) (d []uint32, ok bool) {
	a, b = known(a), known(b)
	if Compare(a, b) < 0 {
		return nil, false
	}
	d = slices.Clone(a)
	borrow := uint64(0)
	for i := range len(d) {
		limb := uint64(d[i]) - borrow
		if i < len(b) {
			limb -= uint64(b[i])
		}
		d[i] = uint32(limb)
		// A difference below 0 has wrapped around, which sets its highest bit.
		borrow = limb >> 63
	}
	return trim(d), true
}

// Mul returns a b.
func Mul(a, b []uint32) []uint32 {
	a, b = known(a), known(b)
	product := make([]uint32, len(a)+len(b))
	for i, x := range a {
		product[i+len(b)] = addProduct(product[i:i+len(b)], b, x)
	}
	return trim(product)
}

// addProduct adds b x to sum, which is as long as b, and returns the carry.
func addProduct(sum, b []uint32, x uint32) uint32 {
	carry := uint64(0)
	for i, y := range b {
		// With n = 2^32 - 1 this is at most n n + n + n, which fits into 64 bits.
		carry += uint64(x)*uint64(y) + uint64(sum[i])
		sum[i] = uint32(carry)
		carry >>= limbBits
	}
	return uint32(carry)
}

// Power returns a to the power of k.
func Power(a []uint32, k int) []uint32 {
	if k < 0 || k > maxPower {
		return nil
	}
	power := []uint32{1}
	for i := bits.Len(uint(k)) - 1; i >= 0; i-- {
		power = Mul(power, power)
		if k>>i&1 == 1 {
			power = Mul(power, a)
		}
	}
	return power
}
