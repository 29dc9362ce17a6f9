package modular_test

import (
	"math"
	"math/big"
	"math/rand"
	"testing"

	"straightedge/api"
	"straightedge/modular"
)

// checkRat checks the residue of a rational number.
func checkRat(t *testing.T, x *big.Rat, p int) {
	t.Helper()
	got, e := modular.Rat(fromRat(x), p)
	den := residue(x.Denom(), p)
	if den == 0 {
		checkFailure(t, got == 0, e, api.ErrZero, "P6.4: Rat of", x, p)
		return
	}
	if e != api.OK || got < 0 || got >= p || product(den, got, p) != residue(x.Num(), p) {
		t.Fatal("P6.4: Rat of", x, p, "is", got, "with error", e)
	}
}

func TestRat(t *testing.T) {
	source := rand.New(rand.NewSource(7))
	limit := new(big.Int).Lsh(big.NewInt(1), 32*api.MaxLimbs)
	for _, p := range testPrimes() {
		for n := -20; n <= 20; n++ {
			for d := 1; d <= 20; d++ {
				checkRat(t, big.NewRat(int64(n), int64(d)), p)
			}
		}
		prime := big.NewInt(int64(p))
		square := new(big.Int).Mul(prime, prime)
		for _, n := range integers(p) {
			num := big.NewInt(int64(n))
			checkRat(t, new(big.Rat).SetInt(num), p)
			checkRat(t, new(big.Rat).SetFrac(num, prime), p)
			checkRat(t, new(big.Rat).SetFrac(num, square), p)
			checkRat(t, new(big.Rat).SetFrac(square, new(big.Int).Add(square, big.NewInt(1))), p)
		}
		for i := range 100 {
			bits := uint(i) % 10 * 400
			num := new(big.Int).Rand(source, new(big.Int).Rsh(limit, bits))
			den := new(big.Int).Rand(source, new(big.Int).Rsh(limit, uint(source.Intn(4000))))
			if den.Sign() == 0 {
				continue
			}
			if i%2 == 1 {
				num.Neg(num)
			}
			checkRat(t, new(big.Rat).SetFrac(num, den), p)
		}
	}
}

// wantLift returns the fraction that the contract describes, by all denominators. It fails if there are two.
func wantLift(t *testing.T, a, p int) *big.Rat {
	t.Helper()
	var found *big.Rat
	step := residue(big.NewInt(int64(a)), p)
	for d := 1; 2*d*d < p; d++ {
		n := d * step % p
		if n > p/2 {
			n -= p
		}
		if 2*n*n >= p {
			continue
		}
		x := big.NewRat(int64(n), int64(d))
		if x.Denom().Int64() != int64(d) {
			continue
		}
		if found != nil {
			t.Fatal("P6.6: two fractions for", a, p)
		}
		found = x
	}
	return found
}

// checkLift checks a fraction, and whether there is one.
func checkLift(t *testing.T, a, p int, want *big.Rat) {
	t.Helper()
	got, found, e := modular.Lift(a, p)
	if e != api.OK || found != (want != nil) {
		t.Fatal("P6.6: Lift of", a, p, "is", text(got), found, "with error", e, "and not", want)
	}
	if !found && !isNoRat(got) || found && text(got) != want.RatString() {
		t.Fatal("P6.6: Lift of", a, p, "is", text(got), "and not", want)
	}
}

func TestLiftSmall(t *testing.T) {
	for _, p := range append(primesTo(500), 1009, 4093) {
		for a := range p {
			want := wantLift(t, a, p)
			for _, n := range []int{a, a - p, a + p, a - 3*p} {
				checkLift(t, n, p, want)
			}
		}
	}
}

func TestLiftLarge(t *testing.T) {
	source := rand.New(rand.NewSource(8))
	for _, p := range largePrimes() {
		for _, a := range integers(p) {
			checkLift(t, a, p, wantLift(t, a, p))
		}
		for range 20 {
			a := draw(source)
			checkLift(t, a, p, wantLift(t, a, p))
		}
	}
}

// greatestTerm returns the greatest integer n for which 2 n^2 is less than p.
func greatestTerm(p int) int {
	n := int(math.Sqrt(float64(p) / 2))
	for 2*n*n >= p {
		n--
	}
	for 2*(n+1)*(n+1) < p {
		n++
	}
	return n
}

// TestLiftLimit lifts the residues of fractions whose terms are at the limit, and beyond it.
func TestLiftLimit(t *testing.T) {
	for _, p := range append(largePrimes(), primesTo(1000)[20:]...) {
		most := greatestTerm(p)
		for _, n := range []int{0, 1, 2, most - 2, most - 1, most, most + 1, most + 2} {
			for _, d := range []int{1, 2, 3, most - 2, most - 1, most, most + 1, most + 2} {
				for _, num := range []int{n, -n} {
					if d < 1 {
						continue
					}
					x := big.NewRat(int64(num), int64(d))
					a := must[int](t)(modular.Rat(fromRat(x), p))
					if n > most || d > most {
						x = wantLift(t, a, p)
					}
					checkLift(t, a, p, x)
				}
			}
		}
	}
}

// TestLiftBorder checks primes that follow next after 2 n^2, and those just before it.
func TestLiftBorder(t *testing.T) {
	for n := 1; 2*n*n < 1<<20; n++ {
		above := must[int](t)(modular.Next(2*n*n + 1))
		checkLift(t, n, above, big.NewRat(int64(n), 1))
		checkLift(t, -n, above, big.NewRat(int64(-n), 1))
		one := must[int](t)(modular.Inv(n, above))
		checkLift(t, one, above, big.NewRat(1, int64(n)))
		checkLift(t, -one, above, big.NewRat(-1, int64(n)))
		if below := 2*n*n - 1; modular.Prime(below) {
			for _, a := range []int{n, -n, must[int](t)(modular.Inv(n, below))} {
				checkLift(t, a, below, wantLift(t, a, below))
			}
		}
	}
}
