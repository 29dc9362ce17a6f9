package multipoly

import (
	"slices"

	"straightedge/api"
	"straightedge/integer"
)

func sum(p, q []api.Term) ([]api.Term, api.Errno) { return merge(p, q, integer.Add) }

func difference(p, q []api.Term) ([]api.Term, api.Errno) { return merge(p, q, integer.Sub) }

// merge computes the coefficient of each monomial of p or q from those in p and q.
func merge(p, q []api.Term, compute func(a, b api.Int) (api.Int, api.Errno)) ([]api.Term, api.Errno) {
	var merged []api.Term
	for len(p)+len(q) > 0 {
		order := compareFirst(p, q)
		var a, b api.Int
		var exps []int
		if order <= 0 {
			a, exps, p = p[0].Coef, p[0].Exps, p[1:]
		}
		if order >= 0 {
			b, exps, q = q[0].Coef, q[0].Exps, q[1:]
		}
		coef, e := compute(a, b)
		if e != api.OK {
			return nil, e
		}
		if !isZero(coef) {
			merged = append(merged, api.Term{Coef: coef, Exps: slices.Clone(exps)})
		}
	}
	if len(merged) > api.MaxTerms {
		return nil, api.ErrTooBig
	}
	return merged, api.OK
}

// compareFirst compares the first monomials of two polynomials, of which one may be 0.
func compareFirst(p, q []api.Term) int {
	switch {
	case len(p) == 0:
		return 1
	case len(q) == 0:
		return -1
	}
	return compareMonomials(p[0], q[0])
}

func product(p, q []api.Term) ([]api.Term, api.Errno) {
	collected := coefficients{}
	left, right := monomialsOf(p), monomialsOf(q)
	for i, a := range p {
		for j, b := range q {
			m, fits := left[i].times(right[j])
			if !fits {
				return nil, api.ErrTooBig
			}
			coef, e := integer.Mul(a.Coef, b.Coef)
			if e != api.OK {
				return nil, e
			}
			if e := collected.add(m, coef); e != api.OK {
				return nil, e
			}
		}
		// Each product of terms that is still to come makes at most one coefficient vanish.
		if toCome := (len(p) - 1 - i) * len(q); len(collected) > api.MaxTerms+toCome {
			return nil, api.ErrTooBig
		}
	}
	return collected.polynomial(), api.OK
}

// divide returns the results of PseudoDiv, where q contains the variable.
func divide(p, q []api.Term, v int) (a, r []api.Term, k int, e api.Errno) {
	// After an error the result is 0, which ends the loop.
	call := func(do func(p, q []api.Term) ([]api.Term, api.Errno), left, right []api.Term) []api.Term {
		var result []api.Term
		if e == api.OK {
			result, e = do(left, right)
		}
		return result
	}
	m := degree(q, v)
	c := exchangePower(q, v, m, 0)
	r = copyPolynomial(p)
	for n := degree(r, v); n >= m; n = degree(r, v) {
		t := exchangePower(r, v, n, n-m)
		a = call(sum, call(product, c, a), t)
		r = call(difference, call(product, c, r), call(product, t, q))
		k++
	}
	if e != api.OK {
		return nil, nil, 0, e
	}
	return a, r, k, api.OK
}
