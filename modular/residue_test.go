package modular_test

import (
	"math"
	"math/big"
	"math/rand"
	"testing"

	"straightedge/api"
	"straightedge/modular"
)

func TestMod(t *testing.T) {
	source := rand.New(rand.NewSource(2))
	for _, p := range testPrimes() {
		l := integers(p)
		for range 100 {
			l = append(l, draw(source))
		}
		for _, n := range l {
			got, e := modular.Mod(n, p)
			checkNumber(t, got, e, residue(big.NewInt(int64(n)), p), "P6.2: Mod of", n, p)
		}
	}
}

func TestMul(t *testing.T) {
	source := rand.New(rand.NewSource(3))
	for _, p := range testPrimes() {
		for _, a := range integers(p) {
			for _, b := range append(integers(p), draw(source), draw(source)) {
				got, e := modular.Mul(a, b, p)
				checkNumber(t, got, e, product(a, b, p), "P6.2: Mul of", a, b, p)
			}
		}
	}
}

func TestPow(t *testing.T) {
	source := rand.New(rand.NewSource(4))
	for _, p := range testPrimes() {
		exponents := []int{0, 1, 2, 3, 62, 63, 64, p - 2, p - 1, p, p + 1, 1 << 32, 1 << 62, math.MaxInt64 - 1, math.MaxInt64}
		for _, a := range append(integers(p), draw(source)) {
			got, e := modular.Pow(a, 0, p)
			checkNumber(t, got, e, 1, "P6.2: Pow of", a, 0, p)
			for _, n := range append(exponents, draw(source)&math.MaxInt64) {
				got, e = modular.Pow(a, n, p)
				checkNumber(t, got, e, power(a, n, p), "P6.2: Pow of", a, n, p)
			}
		}
	}
}

// checkInv checks the inverse of an integer.
func checkInv(t *testing.T, a, p int) {
	t.Helper()
	got, e := modular.Inv(a, p)
	if a%p == 0 {
		checkFailure(t, got == 0, e, api.ErrZero, "P6.2: Inv of", a, p)
		return
	}
	if e != api.OK || got < 1 || got >= p || product(a, got, p) != 1 {
		t.Fatal("P6.2: Inv of", a, p, "is", got, "with error", e)
	}
}

func TestInv(t *testing.T) {
	for _, p := range primesTo(300) {
		for a := -p; a <= 2*p; a++ {
			checkInv(t, a, p)
		}
	}
	source := rand.New(rand.NewSource(5))
	for _, p := range testPrimes() {
		for _, a := range integers(p) {
			checkInv(t, a, p)
		}
		for range 1000 {
			checkInv(t, draw(source), p)
		}
	}
	// Euclid's algorithm has the most steps for neighbours among Fibonacci's numbers.
	for a, b := 1, 2; a < 433494437; a, b = b, a+b {
		checkInv(t, a, 433494437)
		checkInv(t, -b, 433494437)
	}
}

// TestSqrtSmall compares Sqrt with all squares.
func TestSqrtSmall(t *testing.T) {
	for _, p := range append(primesTo(300), 7681, 12289) {
		least := map[int]int{}
		for x := p - 1; x >= 0; x-- {
			least[x*x%p] = x
		}
		for a := -p; a <= 2*p; a++ {
			want, has := least[residue(big.NewInt(int64(a)), p)]
			got, found, e := modular.Sqrt(a, p)
			if e != api.OK || found != has || got != want {
				t.Fatal("P6.3: Sqrt of", a, p, "is", got, found, "with error", e, "and not", want, has)
			}
		}
	}
}

// checkSqrt checks the square root of an integer: one of two numbers, of which at most (p - 1) / 2 is the lesser.
func checkSqrt(t *testing.T, a, p int) {
	t.Helper()
	has := big.Jacobi(big.NewInt(int64(a)), big.NewInt(int64(p))) >= 0
	got, found, e := modular.Sqrt(a, p)
	if e != api.OK || found != has || !found && got != 0 {
		t.Fatal("P6.3: Sqrt of", a, p, "is", got, found, "with error", e)
	}
	if found && (got < 0 || got > (p-1)/2 || product(got, got, p) != residue(big.NewInt(int64(a)), p)) {
		t.Fatal("P6.3: Sqrt of", a, p, "is", got)
	}
}

func TestSqrtLarge(t *testing.T) {
	source := rand.New(rand.NewSource(6))
	// Modulo the last ones, all integers from 0 to 40 have square roots, or even all to 82.
	for _, p := range append(largePrimes(), 366791, 48473881, 120293879, 131486759, 175244281, 427733329) {
		for _, a := range integers(p) {
			checkSqrt(t, a, p)
		}
		for a := range 200 {
			checkSqrt(t, a, p)
			checkSqrt(t, -a, p)
		}
		for range 200 {
			a := draw(source)
			checkSqrt(t, a, p)
			checkSqrt(t, product(a, a, p), p)
		}
	}
}

// TestSqrtOrders checks residues of which the order is each power of 2 that divides p - 1.
func TestSqrtOrders(t *testing.T) {
	for _, p := range []int{3, 5, 17, 193, 257, 65537, 7340033, 469762049, 1811939329, 2013265921, 2113929217} {
		other := 2
		for big.Jacobi(big.NewInt(int64(other)), big.NewInt(int64(p))) != -1 {
			other++
		}
		odd := p - 1
		for odd%2 == 0 {
			odd /= 2
		}
		for a := power(other, odd, p); a != 1; a = product(a, a, p) {
			checkSqrt(t, a, p)
			for _, factor := range []int{4, 9, 100, -1} {
				checkSqrt(t, product(a, factor, p), p)
			}
		}
	}
}
