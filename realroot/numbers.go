package realroot

import (
	"slices"

	"straightedge/api"
	"straightedge/integer"
	"straightedge/rational"
)

// The functions on numbers take valid numbers. Those that return no error cannot fail: no operation with 0, and no order, is too big.

// number returns n.
func number(n int) api.Rat {
	r, _ := rational.Of(n, 1)
	return r
}

// powerOfTwo returns 2^bits, for bits from 0 to maxBits.
func powerOfTwo(bits int) api.Int {
	n, _ := integer.Shift(integer.Of(1), bits)
	return n
}

// negative returns -a.
func negative(a api.Rat) api.Rat {
	r, _ := rational.Sub(number(0), a)
	return r
}

// size returns the absolute value of a.
func size(a api.Rat) api.Rat {
	if rational.Sign(a) < 0 {
		return negative(a)
	}
	return a
}

// middle returns the mean of two numbers.
func middle(lo, hi api.Rat) (api.Rat, api.Errno) {
	sum, e := rational.Add(lo, hi)
	if e != api.OK {
		return api.Rat{}, e
	}
	half, _ := rational.Of(1, 2)
	return rational.Mul(sum, half)
}

// compare returns -1, 0 or 1.
func compare(a, b api.Rat) int {
	order, _ := rational.Cmp(a, b)
	return order
}

func same(a, b api.Rat) bool { return compare(a, b) == 0 }

// lineThrough returns x - n, whose root is n.
func lineThrough(n api.Rat) []api.Rat {
	return []api.Rat{negative(n), number(1)}
}

func clone(a api.Rat) api.Rat {
	return api.Rat{Num: cloneInt(a.Num), Den: cloneInt(a.Den)}
}

func cloneInt(n api.Int) api.Int {
	return api.Int{Neg: n.Neg, Mag: slices.Clone(n.Mag)}
}

func clonePoly(p []api.Rat) []api.Rat {
	result := make([]api.Rat, len(p))
	for i := range p {
		result[i] = clone(p[i])
	}
	return result
}
