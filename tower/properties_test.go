package tower_test

import (
	"math/big"
	"math/rand"
	"testing"

	"straightedge/api"
	"straightedge/integer"
	"straightedge/tower"
)

const precision = 4000

func newFloat() *big.Float { return new(big.Float).SetPrec(precision) }

// estimate returns the value of an element of a valid tower, almost exactly.
func estimate(t api.Tower, x []api.Rat) *big.Float {
	if len(x) == 1 {
		return newFloat().SetRat(toRat(x[0]))
	}
	half := len(x) / 2
	s := newFloat().Sqrt(estimate(t, t.Radicands[levelOf(x)-1]))
	s.Mul(s, estimate(t, x[half:]))
	return s.Add(s, estimate(t, x[:half]))
}

// nearZero reports whether an estimated value can be 0. (The small numbers of these tests have no other values that are so near.)
func nearZero(x *big.Float) bool {
	return x.Sign() == 0 || x.MantExp(nil) < -precision/2
}

func signOf(x *big.Float) int {
	if nearZero(x) {
		return 0
	}
	return x.Sign()
}

func difference(x, y *big.Float) *big.Float { return newFloat().Sub(x, y) }

// values draws towers with up to that many levels, and three elements of each.
func values(seed int64, count, levels, bits int, f func(u api.Tower, x, y, z []api.Rat)) {
	source := rand.New(rand.NewSource(seed))
	for range count {
		n := source.Intn(levels + 1)
		f(drawTower(source, n, bits), draw(source, n, bits), draw(source, n, bits), draw(source, n, bits))
	}
}

func TestValues(t *testing.T) {
	values(52, 600, 5, 3, func(u api.Tower, x, y, _ []api.Rat) {
		v, w := estimate(u, x), estimate(u, y)
		element := must[[]api.Rat](t)
		for _, c := range []struct {
			what string
			x    []api.Rat
			want *big.Float
		}{
			{"P5.2: Add", element(tower.Add(u, x, y)), newFloat().Add(v, w)},
			{"P5.2: Sub", element(tower.Sub(u, x, y)), difference(v, w)},
			{"P5.3: Mul", element(tower.Mul(u, x, y)), newFloat().Mul(v, w)},
		} {
			if len(c.x) != max(len(x), len(y)) || !nearZero(difference(estimate(u, c.x), c.want)) {
				t.Fatal(c.what, "of", text(x), "and", text(y), "in", towerText(u), text(c.x))
			}
		}
		if s := must[int](t)(tower.Sign(u, x)); s != signOf(v) {
			t.Fatal("P5.4: Sign of", text(x), "in", towerText(u), s)
		}
		if n := must[int](t)(tower.Cmp(u, x, y)); n != signOf(difference(v, w)) {
			t.Fatal("P5.4: Cmp of", text(x), "and", text(y), "in", towerText(u), n)
		}
	})
}

func TestFieldProperty(t *testing.T) {
	values(53, 1000, 4, 3, func(u api.Tower, x, y, z []api.Rat) {
		element, number := must[[]api.Rat](t), must[int](t)
		add := func(x, y []api.Rat) []api.Rat { return element(tower.Add(u, x, y)) }
		mul := func(x, y []api.Rat) []api.Rat { return element(tower.Mul(u, x, y)) }
		for _, c := range []struct {
			what string
			x, y []api.Rat
		}{
			{"commutative", add(x, y), add(y, x)},
			{"commutative", mul(x, y), mul(y, x)},
			{"associative", add(add(x, y), z), add(x, add(y, z))},
			{"associative", mul(mul(x, y), z), mul(x, mul(y, z))},
			{"distributive", mul(x, add(y, z)), add(mul(x, y), mul(x, z))},
			{"reversed", element(tower.Sub(u, add(x, y), y)), x},
		} {
			if number(tower.Cmp(u, c.x, c.y)) != 0 {
				t.Fatal("P5.8: not", c.what, text(x), text(y), text(z), "in", towerText(u))
			}
		}
		if number(tower.Sign(u, x)) == 0 {
			if _, e := tower.Inv(u, x); e != api.ErrZero {
				t.Fatal("P5.8: Inv of", text(x), "in", towerText(u), e)
			}
			return
		}
		if reciprocal := element(tower.Inv(u, x)); len(reciprocal) != len(x) || number(tower.Cmp(u, mul(x, reciprocal), ints(1))) != 0 {
			t.Fatal("P5.8: Inv of", text(x), "in", towerText(u), text(reciprocal))
		}
	})
}

func TestOrderProperty(t *testing.T) {
	values(54, 1000, 4, 3, func(u api.Tower, x, y, _ []api.Rat) {
		element, number := must[[]api.Rat](t), must[int](t)
		m, n := number(tower.Sign(u, x)), number(tower.Sign(u, y))
		if number(tower.Sign(u, element(tower.Mul(u, x, y)))) != m*n {
			t.Fatal("P5.9: the product of", text(x), text(y), "in", towerText(u))
		}
		if m == n && number(tower.Sign(u, element(tower.Add(u, x, y)))) != m {
			t.Fatal("P5.9: the sum of", text(x), text(y), "in", towerText(u))
		}
		if number(tower.Sign(u, element(tower.Mul(u, x, x)))) != m*m {
			t.Fatal("P5.9: the square of", text(x), "in", towerText(u))
		}
		if number(tower.Cmp(u, x, y)) != -number(tower.Cmp(u, y, x)) {
			t.Fatal("P5.9: the order of", text(x), text(y), "in", towerText(u))
		}
	})
}

func TestRootProperty(t *testing.T) {
	values(55, 1000, 4, 3, func(u api.Tower, x, y, z []api.Rat) {
		number := must[int](t)
		r, e := sqrt(u, x)
		if number(tower.Sign(u, x)) == -1 {
			if e != api.ErrNegative {
				t.Fatal("P5.10: Sqrt of", text(x), "in", towerText(u), e)
			}
			return
		}
		if e != api.OK || tower.Check(r.tower) != api.OK || number(tower.Sign(r.tower, r.x)) < 0 || number(tower.Cmp(r.tower, must[[]api.Rat](t)(tower.Mul(r.tower, r.x, r.x)), x)) != 0 {
			t.Fatal("P5.10: Sqrt of", text(x), "in", towerText(u), text(r.x), e)
		}
		if number(tower.Cmp(r.tower, y, z)) != number(tower.Cmp(u, y, z)) {
			t.Fatal("P5.10: the values of", text(y), text(z), "in", towerText(r.tower))
		}
		// A square has a root of the same value, whether or not it is the same element.
		if levels := len(u.Radicands); levels < 3 {
			square := must[[]api.Rat](t)(tower.Mul(u, y, y))
			r, e := sqrt(u, square)
			sign := number(tower.Sign(u, y))
			if e != api.OK || number(tower.Cmp(r.tower, r.x, must[[]api.Rat](t)(tower.Mul(u, y, ints(sign))))) != 0 {
				t.Fatal("P5.10: Sqrt of the square of", text(y), "in", towerText(u), text(r.x), e)
			}
		}
	})
}

func TestFloorProperty(t *testing.T) {
	source := rand.New(rand.NewSource(56))
	values(57, 500, 4, 3, func(u api.Tower, x, _, _ []api.Rat) {
		bits := source.Intn(40) - 15
		n, e := tower.Floor(u, x, bits)
		if e != api.OK {
			t.Fatal("P5.11: Floor of", text(x), bits, "in", towerText(u), e)
		}
		v := estimate(u, x)
		v.SetMantExp(v, bits)
		above := difference(v, newFloat().SetRat(toRat(api.Rat{Num: n, Den: integer.Of(1)})))
		if signOf(above) < 0 || signOf(difference(above, newFloat().SetInt64(1))) >= 0 {
			t.Fatal("P5.11: Floor of", text(x), bits, "in", towerText(u), n)
		}
	})
}
