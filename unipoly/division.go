package unipoly

import "straightedge/api"

// division is the result of a division: the quotient and the remainder.
type division struct{ quot, rest []api.Rat }

// divide divides p by q.
func divide(p, q []api.Rat) division {
	if len(q) == 0 {
		abandon(api.ErrZero)
	}
	degree := len(q) - 1
	rest := make([]api.Rat, len(p))
	for i := range p {
		rest[i] = clone(p[i])
	}
	quot := make([]api.Rat, max(0, len(p)-degree))
	for k := len(quot) - 1; k >= 0; k-- {
		quot[k] = quotient(rest[k+degree], q[degree])
		for i := range degree {
			rest[k+i] = difference(rest[k+i], product(quot[k], q[i]))
		}
	}
	return division{quot: quot, rest: trim(rest[:min(degree, len(p))])}
}

// monic returns p, divided by its leading coefficient; of the zero polynomial, nothing is divided.
func monic(p []api.Rat) []api.Rat {
	result := make([]api.Rat, len(p))
	for i := range p {
		result[i] = quotient(p[i], p[len(p)-1])
	}
	return result
}

// commonDivisor returns the monic greatest common divisor.
func commonDivisor(p, q []api.Rat) []api.Rat {
	for len(q) > 0 {
		p, q = q, monic(divide(p, q).rest)
	}
	return monic(p)
}

// resultant returns the resultant.
func resultant(p, q []api.Rat) api.Rat {
	if len(p) == 0 || len(q) == 0 {
		return number(0)
	}
	m, n := len(p)-1, len(q)-1
	if n == 0 {
		return power(q[0], m)
	}
	var value api.Rat
	if m < n {
		value = resultant(q, p)
	} else {
		rest := divide(p, q).rest
		if len(rest) == 0 {
			return number(0)
		}
		// The power counts as an operation even if the other factor is 0.
		value = product(power(q[n], m-(len(rest)-1)), resultant(q, rest))
	}
	if m*n%2 == 1 {
		return difference(number(0), value)
	}
	return value
}
