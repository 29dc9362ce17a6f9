package multipoly

import (
	"strconv"
	"strings"

	"straightedge/api"
	"straightedge/integer"
)

// reader reads a text from the left. What is beyond a limit, or not in the only form that a polynomial has, does not stop it, because the grammar comes first; but from then on, it collects no terms.
type reader struct {
	rest     string
	count    int
	terms    []api.Term // from the greatest one down
	tooBig   bool       // something is beyond its limit
	abnormal bool       // Text does not return such a text
}

// polynomial reads the rest, and reports whether it is what the grammar calls a text, other than "0".
func (r *reader) polynomial() bool {
	negative := r.skip("-")
	for r.term(negative) {
		switch {
		case r.rest == "":
			return true
		case r.skip(" + "):
			negative = false
		case r.skip(" - "):
			negative = true
		default:
			return false
		}
	}
	return false
}

// term reads a term, and reports whether there is one.
func (r *reader) term(negative bool) bool {
	var m monomial
	coef := integer.Of(1)
	digits := r.number()
	if digits != "" {
		coef = r.integer(digits)
	}
	if digits == "" || r.skip("*") {
		r.abnormal = r.abnormal || digits == "1"
		var hasFactors bool
		if m, hasFactors = r.monomial(); !hasFactors {
			return false
		}
	}
	coef.Neg = negative
	r.collect(api.Term{Coef: coef, Exps: m.exps()})
	return true
}

// monomial reads factors, and reports whether there are any.
func (r *reader) monomial() (monomial, bool) {
	var m monomial
	least := 0
	for {
		v, exponent, isFactor := r.factor()
		if !isFactor {
			return monomial{}, false
		}
		r.abnormal = r.abnormal || v < least
		m[v], least = uint8(exponent), v+1
		if !r.skip("*") {
			return m, true
		}
	}
}

// factor reads a power of a variable, and reports whether there is one.
func (r *reader) factor() (v, exponent int, isFactor bool) {
	if !r.skip("x") {
		return 0, 0, false
	}
	if !r.skip("0") {
		index := r.number()
		if index == "" {
			return 0, 0, false
		}
		v = r.small(index, api.MaxVars-1)
	}
	exponent = 1
	if r.skip("^") {
		power := r.number()
		if power == "" {
			return 0, 0, false
		}
		r.abnormal = r.abnormal || power == "1"
		exponent = r.small(power, api.MaxExponent)
	}
	return v, exponent, true
}

// skip reads what is given, if it is next.
func (r *reader) skip(given string) bool {
	rest, isNext := strings.CutPrefix(r.rest, given)
	r.rest = rest
	return isNext
}

// number reads digits, unless the first one is 0; it returns "" if there are none.
func (r *reader) number() string {
	n := 0
	for n < len(r.rest) && r.rest[n] >= '0' && r.rest[n] <= '9' && r.rest[0] != '0' {
		n++
	}
	digits := r.rest[:n]
	r.rest = r.rest[n:]
	return digits
}

// integer returns the value of digits.
func (r *reader) integer(digits string) api.Int {
	n, e := integer.Parse(digits)
	r.tooBig = r.tooBig || e != api.OK
	return n
}

// small returns the value of digits if it is at most the limit; otherwise 0.
func (r *reader) small(digits string, limit int) int {
	n, err := strconv.Atoi(digits)
	if err != nil || n > limit {
		r.tooBig = true
		return 0
	}
	return n
}

// collect appends a term, which has to be less than the one before it.
func (r *reader) collect(term api.Term) {
	r.count++
	r.tooBig = r.tooBig || r.count > api.MaxTerms
	last := len(r.terms) - 1
	r.abnormal = r.abnormal || last >= 0 && compareMonomials(term, r.terms[last]) >= 0
	if !r.tooBig && !r.abnormal {
		r.terms = append(r.terms, term)
	}
}
