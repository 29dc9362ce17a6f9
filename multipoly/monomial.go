package multipoly

import (
	"maps"
	"slices"

	"straightedge/api"
	"straightedge/integer"
)

// monomial holds the exponents of all variables.
type monomial [api.MaxVars]uint8

func monomialOf(exps []int) monomial {
	var m monomial
	for v, exponent := range exps {
		m[v] = uint8(exponent)
	}
	return m
}

func monomialsOf(p []api.Term) []monomial {
	l := make([]monomial, len(p))
	for i, term := range p {
		l[i] = monomialOf(term.Exps)
	}
	return l
}

// times returns the product of two monomials, and whether its exponents are within their limit.
func (m monomial) times(n monomial) (monomial, bool) {
	for v := range m {
		m[v] += n[v]
		if m[v] > api.MaxExponent {
			return monomial{}, false
		}
	}
	return m, true
}

// exps returns the exponents up to the last one that is not 0.
func (m monomial) exps() []int {
	count := len(m)
	for count > 0 && m[count-1] == 0 {
		count--
	}
	exps := make([]int, count)
	for v := range exps {
		exps[v] = int(m[v])
	}
	return exps
}

// coefficients holds the coefficients of monomials that are not 0.
type coefficients map[monomial]api.Int

// add adds a number to the coefficient of a monomial.
func (c coefficients) add(m monomial, n api.Int) api.Errno {
	sum, e := integer.Add(c[m], n)
	if e != api.OK {
		return e
	}
	if isZero(sum) {
		delete(c, m)
	} else {
		c[m] = sum
	}
	return api.OK
}

// polynomial returns the polynomial with these coefficients.
func (c coefficients) polynomial() []api.Term {
	ascending := slices.SortedFunc(maps.Keys(c), func(a, b monomial) int { return slices.Compare(a[:], b[:]) })
	p := make([]api.Term, len(ascending))
	for i, m := range ascending {
		p[i] = api.Term{Coef: c[m], Exps: m.exps()}
	}
	return p
}
