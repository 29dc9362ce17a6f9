package realroot_test

import (
	"math/big"
	"math/rand"
	"slices"
	"testing"

	"straightedge/api"
	"straightedge/integer"
	"straightedge/rational"
	"straightedge/realroot"
	"straightedge/unipoly"
)

const limbBits = 32 * api.MaxLimbs

// fromRat returns the rational number of a number.
func fromRat(x *big.Rat) api.Rat {
	r, e := rational.Parse(x.RatString())
	if e != api.OK {
		panic("no number: " + x.RatString())
	}
	return r
}

// rat returns the number with this text.
func rat(text string) api.Rat {
	x, ok := new(big.Rat).SetString(text)
	if !ok {
		panic("no number: " + text)
	}
	return fromRat(x)
}

// ratio returns n / d.
func ratio(n, d int) api.Rat {
	r, _ := rational.Of(n, d)
	return r
}

// wide returns 2^n + plus.
func wide(n int, plus int64) *big.Rat {
	x := new(big.Int).Lsh(big.NewInt(1), uint(n))
	return new(big.Rat).SetInt(x.Add(x, big.NewInt(plus)))
}

func inverse(x *big.Rat) *big.Rat { return new(big.Rat).Inv(x) }

// numbers returns the polynomial with these coefficients, from that of x^0 on.
func numbers(l ...*big.Rat) []api.Rat {
	var p []api.Rat
	for _, x := range l {
		p = append(p, fromRat(x))
	}
	return p
}

// coefs is numbers for texts.
func coefs(texts ...string) []api.Rat {
	var p []api.Rat
	for _, s := range texts {
		p = append(p, rat(s))
	}
	return p
}

// ints is numbers for small integers.
func ints(l ...int) []api.Rat {
	var p []api.Rat
	for _, n := range l {
		p = append(p, ratio(n, 1))
	}
	return p
}

// full returns a polynomial with n coefficients 1.
func full(n int) []api.Rat {
	return slices.Repeat(ints(1), n)
}

// product returns the product of polynomials; it is nil if it is too big.
func product(polys ...[]api.Rat) []api.Rat {
	result := ints(1)
	for _, p := range polys {
		result, _ = unipoly.Mul(result, p)
	}
	return result
}

// linear returns x - a.
func linear(a api.Rat) []api.Rat {
	p, _ := unipoly.Sub(ints(0, 1), constant(a))
	return p
}

// constant returns the polynomial a.
func constant(a api.Rat) []api.Rat {
	if rational.Sign(a) == 0 {
		return nil
	}
	return []api.Rat{a}
}

// root returns the root of a polynomial between two numbers, valid or not.
func root(p []api.Rat, lo, hi api.Rat) api.Root {
	return api.Root{Poly: p, Interval: api.Interval{Lo: lo, Hi: hi}}
}

// between is root for texts.
func between(p []api.Rat, lo, hi string) api.Root { return root(p, rat(lo), rat(hi)) }

// order compares two valid numbers.
func order(a, b api.Rat) int {
	n, _ := rational.Cmp(a, b)
	return n
}

func equal(a, b api.Rat) bool {
	n, e := rational.Cmp(a, b)
	return e == api.OK && n == 0 || isNothing(a) && isNothing(b)
}

func isNothing(a api.Rat) bool {
	return !a.Num.Neg && !a.Den.Neg && len(a.Num.Mag) == 0 && len(a.Den.Mag) == 0
}

func equalPoly(p, q []api.Rat) bool { return slices.EqualFunc(p, q, equal) }

func equalPolys(p, q [][]api.Rat) bool { return slices.EqualFunc(p, q, equalPoly) }

func equalRoot(a, b api.Root) bool {
	return equalPoly(a.Poly, b.Poly) && equal(a.Interval.Lo, b.Interval.Lo) && equal(a.Interval.Hi, b.Interval.Hi)
}

func equalRoots(a, b []api.Root) bool { return slices.EqualFunc(a, b, equalRoot) }

func equalInt(a, b api.Int) bool {
	n, e := integer.Cmp(a, b)
	return e == api.OK && n == 0
}

func equalNumber(a, b int) bool { return a == b }

// text returns a polynomial for a message.
func text(p []api.Rat) string {
	s, e := unipoly.Text(p)
	if e != api.OK {
		return "(no polynomial)"
	}
	return s
}

// rootText returns a root for a message.
func rootText(r api.Root) string {
	lo, _ := rational.Text(r.Interval.Lo)
	hi, _ := rational.Text(r.Interval.Hi)
	return text(r.Poly) + " in (" + lo + ", " + hi + ")"
}

// isolate returns the roots of a polynomial of which nothing is too big.
func isolate(t *testing.T, p []api.Rat) []api.Root {
	t.Helper()
	l, e := realroot.Isolate(p)
	if e != api.OK {
		t.Fatal("Isolate of", text(p), "error", e)
	}
	return l
}

// must returns a function that fails the test at an error.
func must[T any](t *testing.T) func(v T, e api.Errno) T {
	return func(v T, e api.Errno) T {
		t.Helper()
		if e != api.OK {
			t.Fatal("error", e)
		}
		return v
	}
}

// invalidNumbers returns rational numbers that are not valid.
func invalidNumbers() []api.Rat {
	one, two := integer.Of(1), integer.Of(2)
	long := api.Int{Mag: make([]uint32, api.MaxLimbs+1)}
	long.Mag[api.MaxLimbs] = 1
	return []api.Rat{
		{},
		{Num: two, Den: two},
		{Num: one, Den: integer.Of(-2)},
		{Num: long, Den: one},
		{Num: api.Int{Neg: true}, Den: one},
		{Num: api.Int{Mag: []uint32{1, 0}}, Den: one},
	}
}

// invalidPolys returns polynomials that are not valid.
func invalidPolys() [][]api.Rat {
	l := [][]api.Rat{ints(0), ints(1, 0), full(api.MaxDegree + 2), append(full(api.MaxDegree+1), api.Rat{}), append(full(api.MaxDegree+1), ratio(0, 1))}
	for _, bad := range invalidNumbers() {
		l = append(l, []api.Rat{bad}, append(ints(1), bad), append([]api.Rat{bad}, ints(1)...))
	}
	return l
}

// drawNumber returns a number whose terms have at most that many bits; many are small, or integers.
func drawNumber(source *rand.Rand, bits int) api.Rat {
	limit := new(big.Int).Lsh(big.NewInt(1), uint(bits))
	num, den := new(big.Int).Rand(source, limit), new(big.Int).Rand(source, limit)
	if source.Intn(2) == 0 {
		num.Neg(num)
	}
	switch {
	case source.Intn(6) == 0:
		return ratio(source.Intn(5)-2, 1)
	case source.Intn(2) == 0 || den.Sign() == 0:
		den.SetInt64(1)
	}
	return fromRat(new(big.Rat).SetFrac(num, den))
}

// draw returns a polynomial with at most that many coefficients.
func draw(source *rand.Rand, count, bits int) []api.Rat {
	p := make([]api.Rat, source.Intn(count+1))
	for i := range p {
		p[i] = drawNumber(source, bits)
	}
	for len(p) > 0 && rational.Sign(p[len(p)-1]) == 0 {
		p = p[:len(p)-1]
	}
	return p
}

// drawSome is draw without the zero polynomial.
func drawSome(source *rand.Rand, count, bits int) []api.Rat {
	for {
		if p := draw(source, count, bits); len(p) > 0 {
			return p
		}
	}
}
