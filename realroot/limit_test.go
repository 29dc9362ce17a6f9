package realroot_test

import (
	"math"
	"math/big"
	"math/rand"
	"testing"

	"straightedge/api"
	"straightedge/rational"
	"straightedge/realroot"
	"straightedge/unipoly"
)

// outcomes counts the errors of a function.
type outcomes map[string]map[api.Errno]int

func (o outcomes) add(what string, e api.Errno) {
	if o[what] == nil {
		o[what] = map[api.Errno]int{}
	}
	o[what][e]++
}

// bothSides checks that each function was tried often enough on both sides of the limit.
func (o outcomes) bothSides(t *testing.T, least int) {
	t.Helper()
	for what, counts := range o {
		if counts[api.OK] < least || counts[api.ErrTooBig] < least {
			t.Error("too few calls on one side of the limit:", what, counts)
		}
	}
}

// drawBits returns a number of bits from 1 to most; small ones are as likely as great ones.
func drawBits(source *rand.Rand, most int) int {
	return int(math.Exp(source.Float64() * math.Log(float64(most))))
}

func TestLimitsOfPolynomials(t *testing.T) {
	source := rand.New(rand.NewSource(49))
	o := outcomes{}
	for range 500 {
		p := draw(source, 1+source.Intn(9), drawBits(source, 4000))
		if source.Intn(2) == 0 {
			p = drawFactors(source, drawBits(source, 300)).p
		}
		if p == nil {
			continue
		}
		lo, hi := drawNumber(source, drawBits(source, 3000)), drawNumber(source, drawBits(source, 3000))
		if order(lo, hi) > 0 {
			lo, hi = hi, lo
		}
		o.add("Isolate", checkOnPoly(t, p, lo, hi))
		_, e := realroot.Count(p, lo, hi)
		o.add("Count", e)
		_, e = realroot.All(p)
		o.add("All", e)
		_, e = realroot.Chain(p)
		o.add("Chain", e)
	}
	o.bothSides(t, 40)
}

// drawInterval returns a root of a polynomial with known roots, with ends that are near it or far away; most of these roots are valid.
func drawInterval(source *rand.Rand, bits, endBits int) api.Root {
	f := drawFactors(source, bits)
	p, e := unipoly.Squarefree(f.p)
	if e != api.OK {
		p = ints(0, 1)
		f.roots = constant(ratio(1, 1))
	}
	x := f.roots[source.Intn(len(f.roots))]
	if source.Intn(6) == 0 {
		return root(p, x, x)
	}
	end := func(sign int) api.Rat {
		distance := inverse(wide(drawBits(source, endBits), int64(source.Intn(4))))
		y, e := rational.Add(x, fromRat(distance.Mul(distance, big.NewRat(int64(sign), 1))))
		if e != api.OK {
			return x
		}
		return y
	}
	return root(p, end(-1), end(1))
}

func TestLimitsOfRoots(t *testing.T) {
	source := rand.New(rand.NewSource(50))
	o := outcomes{}
	for range 200 {
		bits := drawBits(source, 400)
		r, s := drawInterval(source, bits, 2000), drawInterval(source, bits, 2000)
		if source.Intn(3) == 0 {
			s.Poly = r.Poly
		}
		q := draw(source, 5, drawBits(source, 1500))
		if source.Intn(3) == 0 {
			q, _ = unipoly.Mul(r.Poly, draw(source, 2, 40))
		}
		places := drawBits(source, 700)
		o.add("Check", checkCheck(t, r))
		o.add("Refine", checkRefine(t, r, places))
		o.add("SignAt", checkSignAt(t, q, r))
		o.add("Cmp", checkCmp(t, r, s))
		o.add("Floor", checkFloor(t, r, places))
		if source.Intn(3) == 0 {
			var p [][]api.Rat
			for range source.Intn(5) {
				p = append(p, draw(source, 4, drawBits(source, 200)))
			}
			o.add("Fibre", checkFibre(t, p, r))
		}
	}
	o.bothSides(t, 15)
}

// TestContractsOfSmallRoots compares with the contracts where nothing is too big, but intervals, errors and fibres are of all kinds.
func TestContractsOfSmallRoots(t *testing.T) {
	source := rand.New(rand.NewSource(51))
	var l []api.Root
	for _, r := range roots() {
		l = append(l, r.Root)
	}
	l = append(l, badRoots()...)
	for _, r := range l {
		checkCheck(t, r)
		for _, bits := range []int{-1, 0, 1, 2, 9, 64, 1025} {
			checkRefine(t, r, bits)
			checkFloor(t, r, bits)
		}
		for _, q := range [][]api.Rat{nil, ints(-3), square, cubic, both, thirds, ints(0, 1), product(square, square), ints(0, 0), drawSome(source, 5, 3)} {
			checkSignAt(t, q, r)
			checkFibre(t, [][]api.Rat{q, ints(1), q}, r)
			checkFibre(t, [][]api.Rat{ints(-1, 1), drawSome(source, 3, 2), nil, q}, r)
		}
		for _, s := range l {
			checkCmp(t, r, s)
		}
	}
}

// awkward is not too big, but the terms of its quotient by itself, before they are reduced to 1, are.
var awkward = new(big.Rat).Quo(wide(3000, 0), wide(3000, -1))

// TestLimitsOfOperations has calls of which a single operation decides whether they are too big.
func TestLimitsOfOperations(t *testing.T) {
	one, minusOne, two := big.NewRat(1, 1), big.NewRat(-1, 1), big.NewRat(2, 1)
	most := wide(limbBits, -1)
	chain := func(l ...*big.Rat) func() api.Errno {
		return func() api.Errno { _, e := realroot.Chain(numbers(l...)); return e }
	}
	isolate := func(l ...*big.Rat) func() api.Errno {
		return func() api.Errno { _, e := realroot.Isolate(numbers(l...)); return e }
	}
	check := func(p []api.Rat, lo, hi string) func() api.Errno {
		return func() api.Errno { return realroot.Check(between(p, lo, hi)) }
	}
	far := wide(4000, 0).RatString()
	half := coefs("-1/2", "1")
	apart := root(half, fromRat(inverse(wide(2100, -1))), fromRat(inverse(big.NewRat(1, 1).Sub(one, inverse(wide(2100, 1))))))
	nearer := root(half, fromRat(inverse(wide(2000, -1))), fromRat(inverse(wide(2000, 1)).Add(one, inverse(wide(2000, 1)))))
	for i, x := range []struct {
		what string
		call func() api.Errno
		want api.Errno
	}{
		{"P4.1: the derivative", chain(one, one, most), api.ErrTooBig},
		{"P4.1: a leading coefficient divided by itself", chain(awkward, new(big.Rat), one), api.ErrTooBig},
		{"P4.1: an integer divided by itself", chain(most, new(big.Rat), one), api.OK},
		{"P4.1: the quotient by a constant", chain(inverse(wide(2100, 0)), wide(2100, 0)), api.ErrTooBig},
		{"P4.1: no quotient", chain(awkward), api.OK},
		{"P4.3: made monic", isolate(awkward, awkward), api.ErrTooBig},
		{"P4.3: 1 plus a coefficient", isolate(inverse(most), one), api.ErrTooBig},
		{"P4.3: 1 plus a coefficient", isolate(inverse(wide(limbBits-2, 0)), one), api.OK},
		{"P4.3: the bound", isolate(wide(limbBits-1, -1), one), api.ErrTooBig},
		{"P4.3: the bound", isolate(wide(limbBits-1, -2), one), api.OK},
		{"P4.3: the bound", isolate(new(big.Rat).Mul(minusOne, wide(limbBits-1, -2)), one), api.OK},
		{"P4.3: no bound of a constant", isolate(wide(limbBits-1, -1)), api.OK},
		{"P4.3: no bound of a constant", isolate(two), api.OK},
		// Which polynomials are computed, and in which order, says which error comes first.
		{"P4.4: a constant", check(numbers(awkward), "0", "1"), api.ErrArg},
		{"P4.4: a constant", check(numbers(awkward), "0", "0"), api.ErrArg},
		{"P4.4: an empty interval", check(numbers(awkward, awkward), "1", "0"), api.ErrArg},
		{"P4.4: made monic", check(numbers(awkward, awkward), "0", "1"), api.ErrTooBig},
		{"P4.4: made monic", check(numbers(awkward, awkward), "0", "0"), api.ErrTooBig},
		{"P4.4: not squarefree, and a value", check(ints(1, -2, 1), "0", far), api.ErrArg},
		{"P4.4: not squarefree, and a value", check(ints(1, -2, 1), far, far), api.ErrArg},
		{"P4.4: a root at an end, and a value", check(ints(-1, 0, 1), "1", far), api.ErrTooBig},
		{"P4.4: a value of a root that is not exact", check(ints(-1, 0, 1), far, far), api.ErrTooBig},
		{"P4.4: a value", check(ints(-1, 1), "0", far), api.OK},
		{"P4.4: the ends", func() api.Errno { return realroot.Check(apart) }, api.OK},
		{"P4.4: the width", func() api.Errno { _, e := realroot.Refine(apart, 0); return e }, api.ErrTooBig},
		{"P4.4: the width", func() api.Errno { _, e := realroot.Refine(nearer, 0); return e }, api.OK},
		{"P4.5: no width", func() api.Errno { _, e := realroot.SignAt(ints(1), apart); return e }, api.OK},
		{"P4.7: a product of an exact root", func() api.Errno { _, e := realroot.Floor(exactRoot(fromRat(wide(4000, 1))), 96); return e }, api.ErrTooBig},
		{"P4.7: a product of an exact root", func() api.Errno { _, e := realroot.Floor(exactRoot(fromRat(wide(4000, 1))), 95); return e }, api.OK},
	} {
		if e := x.call(); e != x.want {
			t.Error(x.what, i, "error", e, "and not", x.want)
		}
	}
}
