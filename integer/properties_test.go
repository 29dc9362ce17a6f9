package integer_test

import (
	"math/big"
	"math/rand"
	"testing"

	"straightedge/api"
	"straightedge/integer"
)

// triples calls f for triples of drawn integers whose products are not too big.
func triples(seed int64, f func(a, b, c api.Int)) {
	source := rand.New(rand.NewSource(seed))
	for _, limbs := range []int{1, 2, 5, api.MaxLimbs/3 - 1} {
		for range 400 {
			f(fromBig(draw(source, limbs)), fromBig(draw(source, limbs)), fromBig(draw(source, limbs)))
		}
	}
}

// must returns a function that fails the test at an error.
func must(t *testing.T) func(a api.Int, e api.Errno) api.Int {
	return func(a api.Int, e api.Errno) api.Int {
		t.Helper()
		if e != api.OK || !integer.Valid(a) {
			t.Fatal("error", e)
		}
		return a
	}
}

func TestRing(t *testing.T) {
	ok := must(t)
	triples(6, func(a, b, c api.Int) {
		add := func(x, y api.Int) api.Int { return ok(integer.Add(x, y)) }
		mul := func(x, y api.Int) api.Int { return ok(integer.Mul(x, y)) }
		if !same(add(a, b), add(b, a)) || !same(mul(a, b), mul(b, a)) {
			t.Fatal("P1.6: not commutative:", a, b)
		}
		if !same(add(add(a, b), c), add(a, add(b, c))) || !same(mul(mul(a, b), c), mul(a, mul(b, c))) {
			t.Fatal("P1.6: not associative:", a, b, c)
		}
		if !same(mul(a, add(b, c)), add(mul(a, b), mul(a, c))) {
			t.Fatal("P1.6: not distributive:", a, b, c)
		}
		negative := mul(b, integer.Of(-1))
		if !same(ok(integer.Sub(a, b)), add(a, negative)) || !isZeroValue(add(b, negative)) {
			t.Fatal("P1.6: Sub is not the addition of the negative:", a, b)
		}
	})
}

func TestDivision(t *testing.T) {
	pairs(func(x, y *big.Int) {
		if y.Sign() == 0 {
			return
		}
		a, b := fromBig(x), fromBig(y)
		quot, rest, e := integer.DivMod(a, b)
		// The product alone may be too big.
		product := new(big.Int).Mul(toBig(quot), y)
		if e != api.OK || product.Add(product, toBig(rest)).Cmp(x) != 0 {
			t.Fatal("P1.7: a is not q b + r:", x, y, e)
		}
		if len(rest.Mag) == 0 {
			return
		}
		size, divisor := rest, b
		size.Neg, divisor.Neg = false, false
		if less, e := integer.Cmp(size, divisor); e != api.OK || less != -1 || rest.Neg != b.Neg {
			t.Fatal("P1.7: the remainder:", x, y, e)
		}
	})
}

func TestCommonDivisors(t *testing.T) {
	ok := must(t)
	divides := func(a, b api.Int) bool {
		_, rest, e := integer.DivMod(b, a)
		return e == api.OK && isZeroValue(rest)
	}
	triples(7, func(a, b, c api.Int) {
		if isZeroValue(c) || isZeroValue(a) && isZeroValue(b) {
			return
		}
		a, b = ok(integer.Mul(a, c)), ok(integer.Mul(b, c))
		common := ok(integer.GCD(a, b))
		if common.Neg || !divides(common, a) || !divides(common, b) || !divides(c, common) {
			t.Fatal("P1.7: the GCD:", a, b, c, common)
		}
	})
}

func TestRoundTrips(t *testing.T) {
	source := rand.New(rand.NewSource(8))
	ok := must(t)
	pairs(func(x, _ *big.Int) {
		a := fromBig(x)
		text, e := integer.Text(a)
		if e != api.OK || !same(a, ok(integer.Parse(text))) {
			t.Fatal("P1.8: Parse does not invert Text:", x, e)
		}
		room := maxBits - x.BitLen()
		for _, n := range []int{0, source.Intn(room + 1), room} {
			if !same(a, ok(integer.Shift(ok(integer.Shift(a, n)), -n))) {
				t.Fatal("P1.8: shifted there and back:", x, n)
			}
		}
	})
}
