package unipoly

import "straightedge/api"

// The functions on polynomials take valid ones, return new memory, and abandon the computation as those on numbers do. Which operations they make is part of the contract, because any of them may be too big.

// combine returns the polynomial whose coefficients are computed from those of p and q.
func combine(operation func(a, b api.Rat) api.Rat, p, q []api.Rat) []api.Rat {
	result := make([]api.Rat, max(len(p), len(q)))
	for i := range result {
		result[i] = operation(coefficient(p, i), coefficient(q, i))
	}
	return trim(result)
}

// coefficient returns the coefficient of x^i, which may be missing.
func coefficient(p []api.Rat, i int) api.Rat {
	if i < len(p) {
		return p[i]
	}
	return number(0)
}

// trim cuts off the zeros at the end.
func trim(p []api.Rat) []api.Rat {
	n := len(p)
	for n > 0 && isZero(p[n-1]) {
		n--
	}
	return p[:n]
}

// multiply returns p * q.
func multiply(p, q []api.Rat) []api.Rat {
	if len(p) == 0 || len(q) == 0 {
		return nil
	}
	degree := len(p) - 1 + len(q) - 1
	if degree > api.MaxDegree {
		abandon(api.ErrTooBig)
	}
	result := make([]api.Rat, degree+1)
	for k := range result {
		result[k] = number(0)
		for i := max(0, k-len(q)+1); i <= min(k, len(p)-1); i++ {
			result[k] = sum(result[k], product(p[i], q[k-i]))
		}
	}
	return result
}

// derivative returns p'.
func derivative(p []api.Rat) []api.Rat {
	result := make([]api.Rat, max(0, len(p)-1))
	for i := range result {
		result[i] = product(number(i+1), p[i+1])
	}
	return result
}

// valueAt returns p(x).
func valueAt(p []api.Rat, x api.Rat) api.Rat {
	value := number(0)
	for i := range p {
		value = sum(product(value, x), p[len(p)-1-i])
	}
	return value
}

// compose returns p(q(x)).
func compose(p, q []api.Rat) []api.Rat {
	if len(p) > 0 && len(q) > 0 && (len(p)-1)*(len(q)-1) > api.MaxDegree {
		abandon(api.ErrTooBig)
	}
	var result []api.Rat
	for i := range p {
		at := len(p) - 1 - i
		result = combine(sum, multiply(result, q), p[at:at+1])
	}
	return result
}
