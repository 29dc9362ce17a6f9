package unipoly

import (
	"slices"

	"straightedge/api"
	"straightedge/rational"
)

// The functions on numbers take valid numbers, return new memory, and abandon the computation where a result is too big.

func sum(a, b api.Rat) api.Rat { return must(rational.Add(a, b)) }

func difference(a, b api.Rat) api.Rat { return must(rational.Sub(a, b)) }

func product(a, b api.Rat) api.Rat { return must(rational.Mul(a, b)) }

func quotient(a, b api.Rat) api.Rat { return must(rational.Div(a, b)) }

// must returns the result of an operation, unless it failed.
func must(r api.Rat, e api.Errno) api.Rat {
	if e != api.OK {
		abandon(e)
	}
	return r
}

// number returns n.
func number(n int) api.Rat { return must(rational.Of(n, 1)) }

// power returns the product of n factors a, from the left.
func power(a api.Rat, n int) api.Rat {
	result := number(1)
	for range n {
		result = product(result, a)
	}
	return result
}

// isZero reports whether a valid number is 0.
func isZero(a api.Rat) bool { return len(a.Num.Mag) == 0 }

// clone returns a copy.
func clone(a api.Rat) api.Rat {
	return api.Rat{Num: cloneInt(a.Num), Den: cloneInt(a.Den)}
}

func cloneInt(n api.Int) api.Int {
	return api.Int{Neg: n.Neg, Mag: slices.Clone(n.Mag)}
}
