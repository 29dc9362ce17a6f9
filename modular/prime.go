package modular

// passes reports whether an odd number greater than 2 passes the test of Miller and Rabin for all bases. No composite number up to MaxPrime does: the least one is 4759123141 (Jaeschke, 1993).
func passes(n int) bool {
	bases := [...]int{2, 7, 61}
	for _, base := range bases {
		// A base that is n itself tells nothing of it.
		if base != n && !passesFor(base%n, n) {
			return false
		}
	}
	return true
}

// passesFor reports whether the powers of a base, to the odd part of n - 1 and to its doubles below n - 1, are 1 at first or -1 at some time.
func passesFor(base, n int) bool {
	odd, twos := splitTwos(n - 1)
	now := power(base, odd, n)
	if now == 1 {
		return true
	}
	for range twos {
		if now == n-1 {
			return true
		}
		now = now * now % n
	}
	return false
}
