package multipoly

import (
	"slices"

	"straightedge/api"
	"straightedge/integer"
)

// The functions of the other files take valid polynomials and variables.

func isVariable(v int) bool { return v >= 0 && v < api.MaxVars }

func isZero(n api.Int) bool { return len(n.Mag) == 0 }

// allValid reports whether all lists are valid polynomials.
func allValid(polynomials ...[]api.Term) bool {
	for _, p := range polynomials {
		if len(p) > api.MaxTerms {
			return false
		}
		for i, term := range p {
			if !isTerm(term) || i > 0 && compareMonomials(p[i-1], term) >= 0 {
				return false
			}
		}
	}
	return true
}

// isTerm reports whether a term may occur in a valid polynomial.
func isTerm(term api.Term) bool {
	return integer.Valid(term.Coef) && !isZero(term.Coef) && areExponents(term.Exps)
}

func areExponents(exps []int) bool {
	n := len(exps)
	if n > api.MaxVars || n > 0 && exps[n-1] == 0 {
		return false
	}
	for _, exponent := range exps {
		if exponent < 0 || exponent > api.MaxExponent {
			return false
		}
	}
	return true
}

// compareMonomials returns a negative number, 0 or a positive one. Their exponents are compared as lists, which is the same because none ends with 0.
func compareMonomials(a, b api.Term) int {
	return slices.Compare(a.Exps, b.Exps)
}

// countVariables returns the least number of variables that the polynomial has.
func countVariables(p []api.Term) int {
	count := 0
	for _, term := range p {
		count = max(count, len(term.Exps))
	}
	return count
}

// exponent returns the exponent of a variable.
func exponent(term api.Term, v int) int {
	if v < len(term.Exps) {
		return term.Exps[v]
	}
	return 0
}

// degree returns the greatest exponent of a variable, and -1 for 0.
func degree(p []api.Term, v int) int {
	greatest := -1
	for _, term := range p {
		greatest = max(greatest, exponent(term, v))
	}
	return greatest
}

// exchangePower returns the terms in which a variable has an exponent, with another exponent instead of it. This keeps their order.
func exchangePower(p []api.Term, v, from, to int) []api.Term {
	var exchanged []api.Term
	for _, term := range p {
		if exponent(term, v) == from {
			m := monomialOf(term.Exps)
			m[v] = uint8(to)
			exchanged = append(exchanged, api.Term{Coef: copyInt(term.Coef), Exps: m.exps()})
		}
	}
	return exchanged
}

// copyPolynomial returns a copy that shares no memory.
func copyPolynomial(p []api.Term) []api.Term {
	copied := make([]api.Term, len(p))
	for i, term := range p {
		copied[i] = api.Term{Coef: copyInt(term.Coef), Exps: slices.Clone(term.Exps)}
	}
	return copied
}

func copyInt(n api.Int) api.Int {
	return api.Int{Neg: n.Neg, Mag: slices.Clone(n.Mag)}
}

// content returns the greatest common divisor of the coefficients, with the sign of the last one.
func content(p []api.Term) api.Int {
	var divisor api.Int
	for _, term := range p {
		divisor, _ = integer.GCD(divisor, term.Coef)
		divisor.Neg = term.Coef.Neg
	}
	return divisor
}
