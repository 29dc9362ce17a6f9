package modular_test

import (
	"math"
	"math/big"
	"math/rand"
	"testing"

	"straightedge/api"
	"straightedge/integer"
	"straightedge/modular"
	"straightedge/rational"
)

// sieve returns, for the n integers from low on, whether each of them is composite.
func sieve(low, n int) []bool {
	composite := make([]bool, n)
	for _, q := range primesTo(46341) {
		for k := max(q*q, (low+q-1)/q*q); k < low+n; k += q {
			composite[k-low] = true
		}
	}
	for k := range n {
		composite[k] = composite[k] || (low+k)%2 == 0 && low+k > 2
	}
	return composite
}

// checkRange compares Prime with a sieve, for the n integers from low on, and Next for those up to the last prime of them.
func checkRange(t *testing.T, low, n int) {
	t.Helper()
	composite := sieve(low, n)
	next := 0
	for i := n - 1; i >= 0; i-- {
		want := low+i >= 3 && !composite[i]
		if modular.Prime(low+i) != want {
			t.Fatal("P6.1: Prime of", low+i, "is not", want)
		}
		if want {
			next = low + i
		}
		if next > 0 {
			got, e := modular.Next(low + i)
			checkNumber(t, got, e, next, "P6.1: Next of", low+i)
		}
	}
}

func TestPrime(t *testing.T) {
	checkRange(t, 0, 200000)
	checkRange(t, 1<<30, 20000)
	checkRange(t, api.MaxPrime-30000, 30001)
	for _, p := range testPrimes() {
		if !isPrime(p) || !modular.Prime(p) {
			t.Error("P6.1: Prime of", p, "is false, or it is no prime")
		}
	}
	for _, n := range unusable() {
		if modular.Prime(n) {
			t.Error("P6.1: Prime of", n, "is true")
		}
	}
	source := rand.New(rand.NewSource(1))
	for range 20000 {
		n := source.Intn(1<<31) | 1
		if want := n > 1 && big.NewInt(int64(n)).ProbablyPrime(0); modular.Prime(n) != want {
			t.Fatal("P6.1: Prime of", n, "is not", want)
		}
	}
}

// TestPseudoprimes checks composite numbers that pass tests of primality for many bases.
func TestPseudoprimes(t *testing.T) {
	for _, n := range []int{
		341, 561, 1105, 1729, 2465, 2821, 6601, 8911, 41041, 825265, 321197185, 413631505, // Fermat's test
		2047, 3277, 4033, 1373653, 1530787, 25326001, 161304001, 960946321, 1157839381, // to the bases 2, 3 and 5
		25, 325, 703, 2101, 2299, 217, 1541, 1261, 1652, // to the bases 7 and 61
		2152302898747, 3215031751, 4759123141, 3474749660383,
	} {
		if modular.Prime(n) {
			t.Error("P6.1: Prime of", n, "is true")
		}
	}
	// Products of two primes, of which one less 1 is a small multiple of the other one less 1, pass most often.
	for _, q := range primesTo(46341) {
		for k := 1; k <= 8 && q*(k*(q-1)+1) <= api.MaxPrime; k++ {
			if n := q * (k*(q-1) + 1); modular.Prime(n) {
				t.Fatal("P6.1: Prime of", n, "is true")
			}
		}
	}
}

func TestNext(t *testing.T) {
	for _, n := range []int{math.MinInt64, math.MinInt64 + 1, -1 << 40, -api.MaxPrime, -5, -1, 0, 1, 2, 3} {
		got, e := modular.Next(n)
		checkNumber(t, got, e, 3, "P6.1: Next of", n)
	}
	// The greatest of these gaps has 292 numbers.
	for n, want := range map[int]int{4: 5, 8: 11, 114: 127, 31398: 31469, 1357201 + 1: 1357333, 1294268491 + 1: 1294268779, 1453168141 + 1: 1453168433, 2147483630: api.MaxPrime, api.MaxPrime: api.MaxPrime} {
		got, e := modular.Next(n)
		checkNumber(t, got, e, want, "P6.1: Next of", n)
	}
	for _, n := range []int{api.MaxPrime + 1, 2147483659, 1 << 32, 1<<32 + 3, math.MaxInt64 - 1, math.MaxInt64} {
		got, e := modular.Next(n)
		checkFailure(t, got == 0, e, api.ErrPrime, "P6.1: Next of", n)
	}
}

// TestErrPrime checks that all other functions reject what is not a usable prime, before any other error but ErrArg.
func TestErrPrime(t *testing.T) {
	half, _ := rational.Of(1, 2)
	for _, p := range unusable() {
		for _, a := range []int{0, 1, -1, 5, p, math.MinInt64, math.MaxInt64} {
			n, e := modular.Mod(a, p)
			checkFailure(t, n == 0, e, api.ErrPrime, "P6.1: Mod of", a, p)
			n, e = modular.Mul(a, 3, p)
			checkFailure(t, n == 0, e, api.ErrPrime, "P6.1: Mul of", a, p)
			n, e = modular.Inv(a, p)
			checkFailure(t, n == 0, e, api.ErrPrime, "P6.1: Inv of", a, p)
			for _, exponent := range []int{0, 1, math.MaxInt64} {
				n, e = modular.Pow(a, exponent, p)
				checkFailure(t, n == 0, e, api.ErrPrime, "P6.1: Pow of", a, exponent, p)
			}
			n, found, e := modular.Sqrt(a, p)
			checkFailure(t, n == 0 && !found, e, api.ErrPrime, "P6.1: Sqrt of", a, p)
			r, found, e := modular.Lift(a, p)
			checkFailure(t, isNoRat(r) && !found, e, api.ErrPrime, "P6.1: Lift of", a, p)
		}
		n, e := modular.Rat(half, p)
		checkFailure(t, n == 0, e, api.ErrPrime, "P6.1: Rat modulo", p)
		for _, m := range [][][]int{nil, {{}}, {{1, 2}, {3, 4}}} {
			n, e = modular.Rank(m, p)
			checkFailure(t, n == 0, e, api.ErrPrime, "P6.1: Rank modulo", p)
			kernel, e := modular.Kernel(m, p)
			checkFailure(t, len(kernel) == 0, e, api.ErrPrime, "P6.1: Kernel modulo", p)
		}
	}
}

// invalidRats returns rational numbers that are not valid.
func invalidRats() []api.Rat {
	one, two := integer.Of(1), integer.Of(2)
	long := api.Int{Mag: make([]uint32, api.MaxLimbs+1)}
	long.Mag[api.MaxLimbs] = 1
	return []api.Rat{
		{},
		{Num: one},
		{Den: two},
		{Num: two, Den: two},
		{Num: one, Den: integer.Of(-2)},
		{Num: long, Den: one},
		{Num: one, Den: long},
		{Num: api.Int{Neg: true}, Den: one},
		{Num: api.Int{Mag: []uint32{1, 0}}, Den: one},
		{Num: one, Den: api.Int{Mag: []uint32{0}}},
	}
}

// invalidMatrices returns matrices that are not valid.
func invalidMatrices() [][][]int {
	wide := make([]int, api.MaxSide+1)
	high := make([][]int, api.MaxSide+1)
	filled := make([][]int, api.MaxSide+1)
	for i := range filled {
		filled[i] = []int{1}
	}
	return [][][]int{
		high, filled, {wide}, {wide, wide}, {make([]int, api.MaxSide), wide},
		{{1}, {1, 2}}, {{1, 2}, {1}}, {{}, {1}}, {{1}, {}}, {nil, {0}}, {{0}, nil}, {{1, 2}, {3, 4}, {5, 6, 7}}, {{1, 2}, {3}, {4, 5}},
	}
}

// TestErrArg checks that ErrArg comes before ErrPrime.
func TestErrArg(t *testing.T) {
	for _, p := range append(unusable(), testPrimes()...) {
		for _, n := range []int{-1, -2, 1 - p, math.MinInt64} {
			if n >= 0 {
				continue
			}
			for _, a := range []int{0, 1, 2, p} {
				got, e := modular.Pow(a, n, p)
				checkFailure(t, got == 0, e, api.ErrArg, "P6.1: Pow of", a, n, p)
			}
		}
		for i, r := range invalidRats() {
			got, e := modular.Rat(r, p)
			checkFailure(t, got == 0, e, api.ErrArg, "P6.1: Rat of invalid number", i, p)
		}
		for i, m := range invalidMatrices() {
			got, e := modular.Rank(m, p)
			checkFailure(t, got == 0, e, api.ErrArg, "P6.1: Rank of invalid matrix", i, p)
			kernel, e := modular.Kernel(m, p)
			checkFailure(t, len(kernel) == 0, e, api.ErrArg, "P6.1: Kernel of invalid matrix", i, p)
		}
	}
}
