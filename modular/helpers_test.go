package modular_test

import (
	"math"
	"math/big"
	"math/rand"
	"slices"
	"testing"

	"straightedge/api"
	"straightedge/modular"
	"straightedge/rational"
)

// isPrime reports whether an integer is a prime, by all divisors.
func isPrime(n int) bool {
	for d := 2; d*d <= n; d++ {
		if n%d == 0 {
			return false
		}
	}
	return n >= 2
}

// primesTo returns the usable primes up to a number.
func primesTo(most int) []int {
	var l []int
	for n := 3; n <= most; n++ {
		if isPrime(n) {
			l = append(l, n)
		}
	}
	return l
}

// largePrimes returns usable primes up to the greatest one. For some of them p - 1 is divisible by a high power of 2.
func largePrimes() []int {
	return []int{65537, 46337, 1000003, 7340033, 469762049, 998244353, 1000000007, 1811939329, 2013265921, 2113929217, 2147483587, 2147483629, api.MaxPrime}
}

// testPrimes returns small usable primes and large ones.
func testPrimes() []int { return append(primesTo(50), largePrimes()...) }

// unusable returns integers that are not usable primes: among them 2, and primes that are too great.
func unusable() []int {
	return []int{
		math.MinInt64, math.MinInt64 + 3, -1 << 32, -api.MaxPrime, -7, -5, -3, -2, -1, 0, 1, 2, 4, 6, 9, 15, 25, 49, 7 * 61, 61 * 61, 561, 2047, 65536, 46337 * 46337,
		api.MaxPrime - 1, api.MaxPrime - 2, api.MaxPrime + 1, 2147483659, 1 << 32, 1<<32 + 3, 1<<32 + 15, 1<<61 - 1, math.MaxInt64 - 24, math.MaxInt64,
	}
}

// integers returns integers about 0, about multiples of p, and about the ends of the range.
func integers(p int) []int {
	greatest := math.MaxInt64 / p * p
	l := []int{math.MinInt64, math.MaxInt64, math.MinInt32, math.MaxUint32}
	for _, n := range []int{0, p / 2, p, 2 * p, p * p, -p, -p * p, greatest, -greatest, math.MinInt64 + 2, math.MaxInt64 - 2} {
		l = append(l, n-2, n-1, n, n+1, n+2)
	}
	return l
}

// residue returns the residue of an integer of any size.
func residue(n *big.Int, p int) int {
	return int(new(big.Int).Mod(n, big.NewInt(int64(p))).Int64())
}

// product returns the residue of a product.
func product(a, b, p int) int {
	return residue(new(big.Int).Mul(big.NewInt(int64(a)), big.NewInt(int64(b))), p)
}

// power returns the residue of a power.
func power(a, n, p int) int {
	modulus := big.NewInt(int64(p))
	base := new(big.Int).Mod(big.NewInt(int64(a)), modulus)
	return residue(new(big.Int).Exp(base, big.NewInt(int64(n)), modulus), p)
}

// draw returns an integer that may be any one; many are small.
func draw(source *rand.Rand) int {
	return int(source.Uint64()) >> source.Intn(64)
}

func fromRat(x *big.Rat) api.Rat {
	r, e := rational.Parse(x.RatString())
	if e != api.OK {
		panic("no number: " + x.RatString())
	}
	return r
}

// text returns a number, or nothing for the zero value.
func text(r api.Rat) string {
	s, _ := rational.Text(r)
	return s
}

func isNoRat(r api.Rat) bool {
	return !r.Num.Neg && !r.Den.Neg && len(r.Num.Mag) == 0 && len(r.Den.Mag) == 0
}

// must returns a function that fails the test at an error.
func must[T any](t *testing.T) func(v T, e api.Errno) T {
	return func(v T, e api.Errno) T {
		t.Helper()
		if e != api.OK {
			t.Fatal("error", e)
		}
		return v
	}
}

// checkNumber checks the result of a call.
func checkNumber(t *testing.T, got int, e api.Errno, want int, about ...any) {
	t.Helper()
	if e != api.OK || got != want {
		t.Fatal(append(about, "is", got, "with error", e, "and not", want)...)
	}
}

// checkFailure checks that a call returns an error, and nothing beside it.
func checkFailure(t *testing.T, isZero bool, e, want api.Errno, about ...any) {
	t.Helper()
	if e != want || !isZero {
		t.Fatal(append(about, "has error", e, "and not", want, "or a result beside it")...)
	}
}

func equalMatrix(a, b [][]int) bool { return slices.EqualFunc(a, b, slices.Equal) }

// checkMatrix checks rank and kernel of a matrix.
func checkMatrix(t *testing.T, m [][]int, p, rank int, kernel [][]int) {
	t.Helper()
	if got, e := modular.Rank(m, p); e != api.OK || got != rank {
		t.Fatal("P6.5: Rank modulo", p, "of", m, "is", got, "with error", e, "and not", rank)
	}
	if got, e := modular.Kernel(m, p); e != api.OK || !equalMatrix(got, kernel) {
		t.Fatal("P6.5: Kernel modulo", p, "of", m, "is", got, "with error", e, "and not", kernel)
	}
}
