package modular

import (
	"straightedge/api"
	"straightedge/integer"
)

// Residues have at most 31 bits, so that their products are in the range of an int.

// residue returns the residue of n.
func residue(n, p int) int {
	n %= p
	if n < 0 {
		n += p
	}
	return n
}

// longResidue returns the residue of a valid integer.
func longResidue(n api.Int, p int) int {
	_, rest, _ := integer.DivMod(n, integer.Of(p))
	small, _ := integer.Small(rest)
	return small
}

// halve calls the body for each binary digit of n, from the last one on: whether it is 1.
func halve(n int, body func(one bool)) {
	for n > 0 {
		body(n%2 == 1)
		n /= 2
	}
}

// power returns the residue a to the power of n, which is not negative.
func power(a, n, p int) int {
	result := 1
	halve(n, func(one bool) {
		if one {
			result = result * a % p
		}
		a = a * a % p
	})
	return result
}

// divide follows Euclid's algorithm for p and the residue a, until a rest is small enough. It returns this rest and a factor: its product with a has the residue of the rest, and its magnitude is at most p.
func divide(a, p int, enough func(rest int) bool) (rest, factor int) {
	before, rest := p, a
	last, factor := 0, 1
	for !enough(rest) {
		quot := before / rest
		before, rest = rest, before-quot*rest
		last, factor = factor, last-quot*factor
	}
	return rest, factor
}

// inverse returns the inverse of a residue that is not 0.
func inverse(a, p int) int {
	_, factor := divide(a, p, func(rest int) bool { return rest == 1 })
	return residue(factor, p)
}

// isSquare reports whether a residue has a square root: Euler's criterion.
func isSquare(a, p int) bool {
	return power(a, p/2, p) != p-1
}

// squareRoot returns a square root of a residue that has one: the algorithm of Tonelli and Shanks.
func squareRoot(a, p int) int {
	odd, twos := splitTwos(p - 1)
	other := 2
	for isSquare(other, p) {
		other++
	}
	// In each round, root * root is a * excess, where the 2^(i+1)-th power of the excess is 1, and the 2^(i+1)-th power of the factor is -1. (For a = 0, root and excess remain 0.)
	root, excess, factor := power(a, odd/2+1, p), power(a, odd, p), power(other, odd, p)
	for i := twos - 2; i >= 0; i-- {
		square := factor * factor % p
		if power(excess, 1<<i, p) == p-1 {
			root = root * factor % p
			excess = excess * square % p
		}
		factor = square
	}
	return root
}

// splitTwos returns the odd number and the exponent of 2 whose power times this number is n, which is greater than 0.
func splitTwos(n int) (odd, twos int) {
	for n%2 == 0 {
		n /= 2
		twos++
	}
	return n, twos
}
