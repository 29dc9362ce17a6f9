package unipoly_test

import (
	"math/big"
	"testing"

	"straightedge/api"
	"straightedge/unipoly"
)

// limitCase is a call of which the listed operations decide whether it is too big, and not the result.
type limitCase struct {
	what string
	call func(p, q []api.Rat) ([]api.Rat, api.Errno)
	p, q list
	want api.Errno
}

func checkLimits(t *testing.T, cases []limitCase) {
	t.Helper()
	for _, x := range cases {
		p, e := x.call(fromList(x.p), fromList(x.q))
		checkError(t, x.what, [][]api.Rat{p}, e, x.want)
	}
}

var (
	nought, one, minus = new(big.Rat), big.NewRat(1, 1), big.NewRat(-1, 1)

	// most is the greatest integer.
	most, least = wide(maxBits, -1), new(big.Rat).Neg(most)

	// awkward is not too big, but the terms of its quotient by itself, before they are reduced to 1, are; and so are those of the difference.
	awkward = new(big.Rat).Quo(wide(3000, 0), wide(3000, -1))
)

func TestLimitsOfSumsAndProducts(t *testing.T) {
	checkLimits(t, []limitCase{
		{"P3.2: a sum", unipoly.Add, list{one, most}, list{one, one}, api.ErrTooBig},
		{"P3.2: a sum that is 0", unipoly.Add, list{awkward}, list{new(big.Rat).Neg(awkward)}, api.ErrTooBig},
		{"P3.2: a missing coefficient", unipoly.Add, list{one, most}, list{one}, api.OK},
		{"P3.2: a difference", unipoly.Sub, list{least, one}, list{one}, api.ErrTooBig},
		{"P3.2: a difference that is 0", unipoly.Sub, list{awkward}, list{awkward}, api.ErrTooBig},
		{"P3.2: a missing coefficient", unipoly.Sub, list{one}, list{one, least}, api.OK},
		{"P3.3: a product", unipoly.Mul, list{one, wide(50, 0)}, list{one, most}, api.ErrTooBig},
		{"P3.3: products with 0 and 1", unipoly.Mul, list{one}, list{most, least, nought, most}, api.OK},
		// Only the coefficient of x^3 is a sum of several products: most, 1 and -1; or -1, 1 and most.
		{"P3.3: a sum from the left", unipoly.Mul, ints(1, 1, 0, 1), list{minus, nought, one, most}, api.ErrTooBig},
		{"P3.3: a sum from the left", unipoly.Mul, ints(1, 1, 0, 1), list{most, nought, one, minus}, api.OK},
		{"P3.3: a sum from the left", unipoly.Mul, list{most, nought, one, minus}, ints(1, 1, 0, 1), api.ErrTooBig},
		{"P3.6: a product", derivative, list{one, one, most}, nil, api.ErrTooBig},
		{"P3.6: products with 0 and 1", derivative, list{most, most, nought, one}, nil, api.OK},
		{"P3.7: a sum", value, list{one, most}, list{one}, api.ErrTooBig},
		{"P3.7: a product", value, list{one, most}, list{wide(50, 0)}, api.ErrTooBig},
		{"P3.7: products with 0", value, list{most, most, most}, list{nought}, api.OK},
		// The sum most - most + 1 from the leading coefficient on, and most + 1 - most.
		{"P3.7: the order", value, list{one, least, most}, list{one}, api.OK},
		{"P3.7: the order", value, list{least, one, most}, list{one}, api.ErrTooBig},
		{"P3.10: a sum", unipoly.Compose, list{one, most}, list{one}, api.ErrTooBig},
		{"P3.10: a product", unipoly.Compose, list{one, most}, list{one, wide(50, 0)}, api.ErrTooBig},
		{"P3.10: products with 0 and 1", unipoly.Compose, list{most, one}, list{nought, most}, api.OK},
		{"P3.10: the order", unipoly.Compose, list{one, least, most}, list{one}, api.OK},
		{"P3.10: the order", unipoly.Compose, list{least, one, most}, list{one}, api.ErrTooBig},
	})
}

func TestLimitsOfDivisions(t *testing.T) {
	wideRoots := unbounded(list{wide(1000, 0)}, ints(-1, 1), ints(-2, 1))
	// x^n times it, plus x - 1, with which it has a root in common.
	above := func(n int) list {
		l := unbounded(power(n), wideRoots)
		l[0], l[1] = new(big.Rat).Add(l[0], minus), new(big.Rat).Add(l[1], one)
		return l
	}
	// Its square, made monic, has a coefficient that is too big.
	base := list{wide(500, 1), new(big.Rat).Quo(wide(500, 3), wide(500, 5)), new(big.Rat).Quo(wide(500, 7), wide(500, 9))}
	checkLimits(t, []limitCase{
		{"P3.4: a quotient of equal numbers", quotient, list{one, awkward}, list{one, awkward}, api.ErrTooBig},
		{"P3.4: a quotient by 1", quotient, list{one, awkward}, list{one, one}, api.OK},
		{"P3.4: the remainder", quotient, list{one, one, wide(50, 0)}, list{most, one}, api.ErrTooBig},
		{"P3.4: nothing to divide", quotient, list{awkward}, list{awkward, awkward}, api.OK},
		{"P3.5: a constant made monic", unipoly.GCD, list{awkward}, nil, api.ErrTooBig},
		{"P3.5: a constant made monic", unipoly.GCD, nil, list{awkward}, api.ErrTooBig},
		{"P3.5: a leading coefficient", unipoly.GCD, list{nought, awkward}, nil, api.ErrTooBig},
		{"P3.5: a quotient by a constant", unipoly.GCD, list{one, awkward}, list{wide(3000, -1)}, api.ErrTooBig},
		{"P3.5: a remainder made monic", unipoly.GCD, list{awkward, one}, ints(0, 1), api.ErrTooBig},
		{"P3.5: an integer made monic", unipoly.GCD, list{most}, ints(0, 1), api.OK},
		{"P3.8: a constant made monic", squarefree, list{awkward}, nil, api.ErrTooBig},
		{"P3.8: an integer made monic", squarefree, list{most}, nil, api.OK},
		{"P3.8: a leading coefficient", squarefree, list{nought, awkward}, nil, api.ErrTooBig},
		{"P3.8: the quotient made monic", squarefree, unbounded(base, base), nil, api.OK},
		// The resultants of the first two are 0, but the products have the factors 2^1000 to the powers of 11 and of 2.
		{"P3.9: a power beside 0", resultant, above(10), wideRoots, api.ErrTooBig},
		{"P3.9: a power beside 0", resultant, above(1), wideRoots, api.OK},
		{"P3.9: a remainder that is 0", resultant, unbounded(power(10), wideRoots), wideRoots, api.OK},
		{"P3.9: a power", resultant, list{wide(maxBits/2, 0)}, ints(1, 0, 1), api.ErrTooBig},
		{"P3.9: the power 1", resultant, list{most}, ints(1, 1), api.OK},
		{"P3.9: the power 0", resultant, list{most}, list{least}, api.OK},
	})
}

func quotient(p, q []api.Rat) ([]api.Rat, api.Errno) {
	quot, _, e := unipoly.DivMod(p, q)
	return quot, e
}

func derivative(p, _ []api.Rat) ([]api.Rat, api.Errno) { return unipoly.Derivative(p) }

func squarefree(p, _ []api.Rat) ([]api.Rat, api.Errno) { return unipoly.Squarefree(p) }

func value(p, q []api.Rat) ([]api.Rat, api.Errno) {
	v, e := unipoly.Eval(p, q[0])
	return []api.Rat{v}, e
}

func resultant(p, q []api.Rat) ([]api.Rat, api.Errno) {
	v, e := unipoly.Resultant(p, q)
	return []api.Rat{v}, e
}
