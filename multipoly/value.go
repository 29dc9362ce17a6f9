package multipoly

import (
	"straightedge/api"
	"straightedge/integer"
	"straightedge/modular"
	"straightedge/rational"
)

// value returns the value at numbers, one for each variable.
func value(p []api.Term, at []api.Rat) (api.Rat, api.Errno) {
	total, e := rational.Of(0, 1)
	for _, term := range p {
		var summand api.Rat
		if summand, e = termValue(term, at); e != api.OK {
			return api.Rat{}, e
		}
		if total, e = rational.Add(total, summand); e != api.OK {
			return api.Rat{}, e
		}
	}
	return total, e
}

// termValue returns the value of a term. It shares memory with the coefficient of a constant.
func termValue(term api.Term, at []api.Rat) (api.Rat, api.Errno) {
	result := api.Rat{Num: term.Coef, Den: integer.Of(1)}
	for v, exponent := range term.Exps {
		for range exponent {
			var e api.Errno
			if result, e = rational.Mul(result, at[v]); e != api.OK {
				return api.Rat{}, e
			}
		}
	}
	return result, api.OK
}

// residue returns the value at integers, one for each variable, modulo a prime. Residues have at most 31 bits, so that their products are in the range of an int.
func residue(p []api.Term, at []int, prime int) int {
	residues := make([]int, len(at))
	for v, n := range at {
		residues[v], _ = modular.Mod(n, prime)
	}
	modulus := integer.Of(prime)
	total := 0
	for _, term := range p {
		_, rest, _ := integer.DivMod(term.Coef, modulus)
		summand, _ := integer.Small(rest)
		for v, exponent := range term.Exps {
			for range exponent {
				summand = summand * residues[v] % prime
			}
		}
		total = (total + summand) % prime
	}
	return total
}
