package tower

import (
	"math/bits"
	"slices"

	"straightedge/api"
	"straightedge/integer"
	"straightedge/rational"
)

// isShaped reports whether t is well-shaped.
func isShaped(t api.Tower) bool {
	if len(t.Radicands) > api.MaxLevels {
		return false
	}
	for i, r := range t.Radicands {
		if !isElement(r, i) {
			return false
		}
	}
	return true
}

// isElement reports whether x is an element of a level from 0 to the greatest one.
func isElement(x []api.Rat, greatest int) bool {
	if bits.OnesCount(uint(len(x))) != 1 || len(x) > 1<<greatest {
		return false
	}
	for _, a := range x {
		if !rational.Valid(a) {
			return false
		}
	}
	return true
}

// halves returns the halves of an element of a level greater than 0.
func halves(x []api.Rat) (first, second []api.Rat) {
	n := len(x) / 2
	return x[:n:n], x[n : 2*n : 2*n]
}

// lift returns an element as one of n numbers, which shares the memory of the numbers of x.
func lift(x []api.Rat, n int) []api.Rat {
	return slices.Concat(x, zeros(n-len(x)))
}

// level lifts one of two elements to the level of the other one.
func level(x, y []api.Rat) (liftedX, liftedY []api.Rat) {
	n := max(len(x), len(y))
	return lift(x, n), lift(y, n)
}

// whole returns an integer as a rational number, which shares its memory.
func whole(n api.Int) api.Rat {
	return api.Rat{Num: n, Den: integer.Of(1)}
}

// zeros returns n zeros.
func zeros(n int) []api.Rat {
	x := make([]api.Rat, n)
	for i := range x {
		x[i] = whole(integer.Of(0))
	}
	return x
}

// isZero reports whether all numbers are 0.
func isZero(x []api.Rat) bool {
	for _, a := range x {
		if len(a.Num.Mag) > 0 {
			return false
		}
	}
	return true
}

// newestRoot returns the element of a tower that is the square root of the last radicand.
func newestRoot(t api.Tower) []api.Rat {
	half := 1 << (len(t.Radicands) - 1)
	root := zeros(2 * half)
	root[half] = whole(integer.Of(1))
	return root
}

func cloneTower(t api.Tower) api.Tower {
	var copied api.Tower
	for _, r := range t.Radicands {
		copied.Radicands = append(copied.Radicands, cloneElement(r))
	}
	return copied
}

func cloneElement(x []api.Rat) []api.Rat {
	copied := make([]api.Rat, len(x))
	for i, a := range x {
		copied[i] = api.Rat{Num: cloneInt(a.Num), Den: cloneInt(a.Den)}
	}
	return copied
}

func cloneInt(n api.Int) api.Int {
	return api.Int{Neg: n.Neg, Mag: slices.Clone(n.Mag)}
}
