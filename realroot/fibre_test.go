package realroot_test

import (
	"math/rand"
	"slices"
	"testing"

	"straightedge/api"
	"straightedge/realroot"
	"straightedge/unipoly"
)

// The tests write a polynomial in y as the list of its coefficients, which are polynomials in x.

// productY returns the product of polynomials in y; it is nil if it is too big.
func productY(polys ...[][]api.Rat) [][]api.Rat {
	result := [][]api.Rat{ints(1)}
	for _, p := range polys {
		next := make([][]api.Rat, len(result)+len(p)-1)
		for i := range result {
			for k := range p {
				next[i+k], _ = unipoly.Add(next[i+k], product(result[i], p[k]))
			}
		}
		result = next
	}
	return result
}

var circle = [][]api.Rat{ints(-1, 0, 1), nil, ints(1)}

func TestFibre(t *testing.T) {
	root2, one := between(square, "0", "4"), between(ints(-1, 1), "1", "1")
	for i, x := range []struct {
		p    [][]api.Rat
		r    api.Root
		want int
		e    api.Errno
	}{
		{circle, between(ints(0, 1), "0", "0"), 2, api.OK}, {circle, one, 1, api.OK}, {circle, between(ints(-2, 1), "2", "2"), 0, api.OK},
		{circle, between(coefs("-1/2", "0", "1"), "0", "4"), 2, api.OK}, {circle, root2, 0, api.OK}, {circle, between(ints(-1, 1), "0", "4"), 1, api.OK},
		// y - x^2, x y - 1, x y, y^2 - x^3 + x
		{[][]api.Rat{ints(0, 0, -1), ints(1)}, root2, 1, api.OK},
		{[][]api.Rat{ints(-1), ints(0, 1)}, root2, 1, api.OK}, {[][]api.Rat{ints(-1), ints(0, 1)}, between(cubic, "0", "0"), 0, api.OK}, {[][]api.Rat{nil, ints(0, 1)}, between(cubic, "0", "0"), 0, api.ErrZero},
		{[][]api.Rat{ints(0, 1, 0, -1), nil, ints(1)}, root2, 2, api.OK}, {[][]api.Rat{ints(0, 1, 0, -1), nil, ints(1)}, one, 1, api.OK}, {[][]api.Rat{ints(0, 1, 0, -1), nil, ints(1)}, between(coefs("-1/2", "1"), "0", "1"), 0, api.OK},
		// No coefficients, or none that is not 0 there; a constant, after coefficients that are 0 there have been removed.
		{nil, root2, 0, api.ErrZero}, {[][]api.Rat{nil, nil}, root2, 0, api.ErrZero}, {[][]api.Rat{square, product(square, cubic)}, root2, 0, api.ErrZero}, {[][]api.Rat{nil}, one, 0, api.ErrZero}, {[][]api.Rat{square, cubic}, one, 0, api.OK}, {[][]api.Rat{cubic}, one, 0, api.ErrZero},
		{[][]api.Rat{ints(3)}, root2, 0, api.OK}, {[][]api.Rat{ints(0, 1), nil, square}, root2, 0, api.OK}, {[][]api.Rat{nil, ints(1), square, nil}, root2, 1, api.OK},
		// They are 0 at the root, but not at all roots of its polynomial.
		{[][]api.Rat{ints(-1), nil, ints(1), square}, between(both, "0", "3/2"), 2, api.OK}, {[][]api.Rat{ints(-1), nil, ints(1), square}, between(both, "3/2", "2"), 1, api.OK},
		// A remainder of which the first coefficients are 0 at the root: (y^2 + x^2 - 2) (y - 1).
		{productY([][]api.Rat{square, nil, ints(1)}, [][]api.Rat{ints(-1), ints(1)}), between(both, "0", "3/2"), 2, api.OK},
		{productY([][]api.Rat{square, nil, ints(1)}, [][]api.Rat{ints(-1), ints(1)}), between(both, "3/2", "2"), 1, api.OK},
		// y^5 - 1, y^6 - 1, (y^2 - 2)^3 and the like: degrees fall by more than 1, and roots are multiple.
		{[][]api.Rat{ints(-1), nil, nil, nil, nil, ints(1)}, root2, 1, api.OK}, {[][]api.Rat{ints(-1), nil, nil, nil, nil, nil, ints(1)}, root2, 2, api.OK}, {[][]api.Rat{nil, nil, nil, nil, ints(0, 1)}, root2, 1, api.OK},
		{productY([][]api.Rat{ints(-2), nil, ints(1)}, [][]api.Rat{ints(-2), nil, ints(1)}, [][]api.Rat{ints(0, 1), ints(1)}), root2, 2, api.OK},
		{slices.Repeat([][]api.Rat{ints(1)}, 8), one, 1, api.OK}, {slices.Repeat([][]api.Rat{ints(1)}, 7), one, 0, api.OK},
		// So many coefficients are permitted, but the remainders of this one are too big.
		{append([][]api.Rat{ints(-1), ints(1)}, make([][]api.Rat, api.MaxDegree-1)...), root2, 1, api.OK}, {append(make([][]api.Rat, api.MaxDegree), ints(0, 1)), root2, 1, api.OK}, {slices.Repeat([][]api.Rat{ints(1)}, api.MaxDegree+1), one, 0, api.ErrTooBig},
	} {
		if n, e := realroot.Fibre(x.p, x.r); n != x.want || e != x.e {
			t.Error("P4.8: Fibre", i, "at", rootText(x.r), n, e)
		}
	}
}

// TestReducedFibres has polynomials whose products are too long unless each of them is reduced.
func TestReducedFibres(t *testing.T) {
	x40, x24 := power(40), power(24)
	root25 := between(append(append(ints(-2), power(24)[:24]...), ints(1)...), "1", "2")
	minus24, _ := unipoly.Sub(nil, x24)
	for i, x := range []struct {
		p    [][]api.Rat
		r    api.Root
		want int
	}{
		{[][]api.Rat{x40, x40, x40}, between(square, "0", "4"), 0},
		{[][]api.Rat{minus24, nil, x24}, root25, 2},
		{[][]api.Rat{minus24, x24}, root25, 1},
		{[][]api.Rat{ints(1), x24, x24}, root25, 0},
		{[][]api.Rat{ints(-1), x24, x24}, root25, 2},
	} {
		if n, e := realroot.Fibre(x.p, x.r); n != x.want || e != api.OK {
			t.Error("P4.8: Fibre", i, "at", rootText(x.r), n, e)
		}
	}
}

// power returns x^n.
func power(n int) []api.Rat {
	return append(slices.Repeat(ints(0), n), ints(1)...)
}

func TestTooLongFibres(t *testing.T) {
	for _, element := range [][]api.Rat{nil, ints(1), ints(0), {{}}} {
		for _, r := range []api.Root{{}, between(square, "0", "4"), between(cubic, "-2", "2")} {
			for _, count := range []int{api.MaxDegree + 2, 1000} {
				if n, e := realroot.Fibre(slices.Repeat([][]api.Rat{element}, count), r); n != 0 || e != api.ErrTooBig {
					t.Error("P4.8: Fibre of too many coefficients:", n, e)
				}
			}
		}
	}
}

// TestFibresOfKnownRoots multiplies y - a - b x for known a and b, at the root of 2 that is given by different polynomials.
func TestFibresOfKnownRoots(t *testing.T) {
	source := rand.New(rand.NewSource(44))
	places := []api.Root{between(square, "0", "4"), between(square, "-4", "0"), between(both, "0", "3/2"), between(product(square, ints(-1, 1)), "5/4", "3/2")}
	decided := 0
	for range 60 {
		// The first factor has rational coefficients and a degree of at most 1, so that it is not 0 at the root.
		p := [][]api.Rat{drawSome(source, 2, 3)}
		seen := map[[2]int]bool{}
		for range 1 + source.Intn(3) {
			a, b := source.Intn(5)-2, source.Intn(3)-1
			seen[[2]int{a, b}] = true
			root, _ := unipoly.Sub(nil, plusTimesX(a, b))
			p = productY(p, [][]api.Rat{root, ints(1)})
		}
		if source.Intn(3) == 0 {
			p = productY(p, [][]api.Rat{ints(1), nil, ints(1)})
		}
		// Multiples of x^2 - 2 change nothing, nor do more coefficients that are such multiples.
		p = append(p, make([][]api.Rat, source.Intn(2))...)
		for k := range p {
			if source.Intn(2) == 0 {
				p[k], _ = unipoly.Add(p[k], product(square, draw(source, 3, 2)))
			}
		}
		for _, r := range places {
			n, e := realroot.Fibre(p, r)
			if e == api.ErrTooBig && len(p) > 4 {
				continue
			}
			if n != len(seen) || e != api.OK {
				t.Fatal("P4.8: Fibre at", rootText(r), n, e, "and not", len(seen))
			}
			decided++
		}
	}
	if decided < 180 {
		t.Error("too few fibres are not too big:", decided)
	}
}

// plusTimesX returns the polynomial a + b x.
func plusTimesX(a, b int) []api.Rat {
	p, _ := unipoly.Add(constant(ratio(a, 1)), product(constant(ratio(b, 1)), ints(0, 1)))
	return p
}
