package terms

import (
	"math/bits"
	"slices"

	"robuststats/api"
)

// A term is a set of factors: bit i stands for factor i of the expander. There are enough bits because a formula has at most 64 nodes.
type term uint64

// intercept is the empty term.
const intercept term = 0

func (t term) size() int {
	return bits.OnesCount64(uint64(t))
}

func (t term) has(factor int) bool {
	return t>>factor&1 == 1
}

// combined returns the list of an operation with two operands.
func combined(op int, a, b []term) []term {
	switch op {
	case api.FPlus:
		return together(a, b)
	case api.FMinus:
		return without(a, b)
	case api.FColon:
		return crossed(a, b)
	case api.FStar:
		return together(a, b, crossed(a, b))
	case api.FSlash:
		return together(a, crossed([]term{whole(a)}, b))
	}
	return nil
}

// together returns the terms of some lists, each term once, at its first place.
func together(lists ...[]term) []term {
	var all []term
	for _, t := range slices.Concat(lists...) {
		if !slices.Contains(all, t) {
			all = append(all, t)
		}
	}
	return all
}

// without returns the terms of a that are not among those of b.
func without(a, b []term) []term {
	return slices.DeleteFunc(slices.Clone(a), func(t term) bool { return slices.Contains(b, t) })
}

// crossed returns the unions of each term of a and each term of b.
func crossed(a, b []term) []term {
	var all []term
	for _, s := range a {
		for _, t := range b {
			all = append(all, s|t)
		}
	}
	return together(all)
}

// whole returns the union of all terms of a list.
func whole(list []term) term {
	all := intercept
	for _, t := range list {
		all |= t
	}
	return all
}
