package modular_test

import (
	"math/big"
	"math/rand"
	"testing"

	"straightedge/api"
	"straightedge/modular"
	"straightedge/rational"
)

func TestField(t *testing.T) {
	number := must[int](t)
	source := rand.New(rand.NewSource(11))
	for _, p := range testPrimes() {
		sum := func(a, b int) int { return number(modular.Mod(a+b, p)) }
		times := func(a, b int) int { return number(modular.Mul(a, b, p)) }
		for range 100 {
			a, b, c := source.Intn(p), source.Intn(p), source.Intn(p)
			if times(a, b) != times(b, a) || times(times(a, b), c) != times(a, times(b, c)) {
				t.Fatal("P6.7: Mul is not commutative and associative:", a, b, c, p)
			}
			if sum(sum(a, b), c) != sum(a, sum(b, c)) || sum(a, number(modular.Mod(-a, p))) != 0 {
				t.Fatal("P6.7: the sums are no group:", a, b, c, p)
			}
			if times(a, sum(b, c)) != sum(times(a, b), times(a, c)) || times(a, 1) != a {
				t.Fatal("P6.7: not distributive:", a, b, c, p)
			}
			if a != 0 {
				checkEuler(t, a, p)
			}
		}
	}
	for _, p := range primesTo(100) {
		for a := 1; a < p; a++ {
			checkEuler(t, a, p)
		}
	}
}

// checkEuler checks the powers and the inverse of a residue that is not 0.
func checkEuler(t *testing.T, a, p int) {
	t.Helper()
	number := must[int](t)
	if number(modular.Mul(a, number(modular.Inv(a, p)), p)) != 1 {
		t.Fatal("P6.7: no inverse of", a, p)
	}
	if number(modular.Pow(a, p-1, p)) != 1 || number(modular.Inv(a, p)) != number(modular.Pow(a, p-2, p)) {
		t.Fatal("P6.7: Pow of", a, p-1, p)
	}
	_, found, e := modular.Sqrt(a, p)
	want := p - 1
	if found {
		want = 1
	}
	if e != api.OK || number(modular.Pow(a, (p-1)/2, p)) != want {
		t.Fatal("P6.7: Sqrt of", a, p, "is found:", found)
	}
}

func TestRationals(t *testing.T) {
	number := must[int](t)
	ratio := must[api.Rat](t)
	source := rand.New(rand.NewSource(12))
	for _, p := range testPrimes() {
		drawn := func() api.Rat {
			for {
				x := big.NewRat(int64(draw(source)), int64(draw(source)|1))
				if residue(x.Denom(), p) != 0 {
					return fromRat(x)
				}
			}
		}
		image := func(r api.Rat) int { return number(modular.Rat(r, p)) }
		for range 100 {
			x, y := drawn(), drawn()
			if image(ratio(rational.Add(x, y))) != (image(x)+image(y))%p {
				t.Fatal("P6.8: the sum of", text(x), text(y), p)
			}
			if image(ratio(rational.Mul(x, y))) != number(modular.Mul(image(x), image(y), p)) {
				t.Fatal("P6.8: the product of", text(x), text(y), p)
			}
			if image(y) == 0 {
				continue
			}
			if image(ratio(rational.Div(x, y))) != number(modular.Mul(image(x), number(modular.Inv(image(y), p)), p)) {
				t.Fatal("P6.8: the quotient of", text(x), text(y), p)
			}
		}
	}
}

// TestLiftInvertsRat lifts the residues of all fractions with small terms, or of some of them.
func TestLiftInvertsRat(t *testing.T) {
	for _, p := range append(primesTo(400), largePrimes()...) {
		most := greatestTerm(p)
		stride := most/50 + 1
		for n := -most; n <= most; n += stride {
			for d := 1; d <= most; d += stride {
				x := big.NewRat(int64(n), int64(d))
				checkLift(t, must[int](t)(modular.Rat(fromRat(x), p)), p, x)
			}
		}
	}
}

// transpose returns the matrix with rows and columns exchanged.
func transpose(m [][]int) [][]int {
	l := make([][]int, len(m[0]))
	for i := range l {
		for _, row := range m {
			l[i] = append(l[i], row[i])
		}
	}
	return l
}

func TestDimensions(t *testing.T) {
	number := must[int](t)
	source := rand.New(rand.NewSource(13))
	for _, p := range testPrimes() {
		for range 30 {
			rows, columns, kinds := 1+source.Intn(9), 1+source.Intn(9), 2+source.Intn(2)
			m := make([][]int, rows)
			for i := range m {
				for range columns {
					m[i] = append(m[i], source.Intn(kinds)*draw(source))
				}
				if i > 1 && source.Intn(2) == 0 {
					copy(m[i], m[source.Intn(i)])
				}
			}
			rank := number(modular.Rank(m, p))
			kernel := must[[][]int](t)(modular.Kernel(m, p))
			if len(kernel) != columns-rank {
				t.Fatal("P6.9: the dimension of the kernel modulo", p, "of", m, "is", len(kernel), "with rank", rank)
			}
			if number(modular.Rank(transpose(m), p)) != rank {
				t.Fatal("P6.9: the rank modulo", p, "of the transpose of", m, "is not", rank)
			}
			for _, v := range kernel {
				if len(v) != columns || !isInKernel(m, v, p) {
					t.Fatal("P6.5: Kernel modulo", p, "of", m, "contains", v)
				}
			}
			// The kernel's vectors are independent, and each of them is orthogonal to all rows.
			if len(kernel) > 0 && number(modular.Rank(kernel, p)) != len(kernel) {
				t.Fatal("P6.5: Kernel modulo", p, "of", m, "is no basis")
			}
		}
	}
}
