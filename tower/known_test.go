package tower_test

import (
	"math/big"
	"math/rand"
	"testing"

	"straightedge/api"
	"straightedge/integer"
	"straightedge/rational"
	"straightedge/tower"
)

// known is a valid tower whose roots are rational numbers, so that every element has a rational value, and many have the same.
type known struct {
	api.Tower
	roots []*big.Rat
}

// value returns the value of an element.
func (k known) value(x []api.Rat) *big.Rat {
	if len(x) == 1 {
		return toRat(x[0])
	}
	half := len(x) / 2
	second := k.value(x[half:])
	second.Mul(second, k.roots[levelOf(x)-1])
	return second.Add(second, k.value(x[:half]))
}

// shift adds a number to an element.
func shift(x []api.Rat, by *big.Rat) []api.Rat {
	first := new(big.Rat).Add(toRat(x[0]), by)
	return append(numbers(first), x[1:]...)
}

// drawKnown returns a tower with that many levels.
func drawKnown(source *rand.Rand, levels int) known {
	var k known
	for i := range levels {
		r := big.NewRat(int64(1+source.Intn(6)), int64(1+source.Intn(3)))
		x := draw(source, i, 3)
		square := new(big.Rat).Mul(r, r)
		k.Radicands = append(k.Radicands, shift(x, square.Sub(square, k.value(x))))
		k.roots = append(k.roots, r)
	}
	return k
}

// drawElement returns an element; the values of many are 0 or small integers.
func (k known) drawElement(source *rand.Rand) []api.Rat {
	x := draw(source, len(k.roots), 4)
	if source.Intn(3) == 0 {
		x = shift(x, minus(k.value(x)))
	}
	if source.Intn(3) == 0 {
		x = shift(x, big.NewRat(int64(source.Intn(9)-4), int64(1+source.Intn(2))))
	}
	return x
}

func (k known) check(t *testing.T, what string, x []api.Rat, e api.Errno, want *big.Rat) {
	t.Helper()
	if e != api.OK || !tower.Valid(k.Tower, x) || k.value(x).Cmp(want) != 0 {
		t.Fatal(what, "in", towerText(k.Tower), text(x), e, "and not", want)
	}
}

// floorOf returns the greatest integer that is not greater than x * 2^bits.
func floorOf(x *big.Rat, bits int) *big.Rat {
	scale := wide(max(bits, -bits), 0)
	if bits < 0 {
		scale.Inv(scale)
	}
	scale.Mul(scale, x)
	quot, _ := new(big.Int).DivMod(scale.Num(), scale.Denom(), new(big.Int))
	return new(big.Rat).SetInt(quot)
}

func TestKnownValues(t *testing.T) {
	source := rand.New(rand.NewSource(51))
	zeros, conjugates := 0, 0
	for range 2000 {
		k := drawKnown(source, source.Intn(5))
		if e := tower.Check(k.Tower); e != api.OK {
			t.Fatal("P5.1: Check of", towerText(k.Tower), e)
		}
		x, y := k.drawElement(source), k.drawElement(source)
		v, w := k.value(x), k.value(y)
		sum, e := tower.Add(k.Tower, x, y)
		k.check(t, "P5.2: Add", sum, e, new(big.Rat).Add(v, w))
		difference, e := tower.Sub(k.Tower, x, y)
		k.check(t, "P5.2: Sub", difference, e, new(big.Rat).Sub(v, w))
		product, e := tower.Mul(k.Tower, x, y)
		k.check(t, "P5.3: Mul", product, e, new(big.Rat).Mul(v, w))
		if s, e := tower.Sign(k.Tower, x); e != api.OK || s != v.Sign() {
			t.Fatal("P5.4: Sign of", text(x), "in", towerText(k.Tower), s, e)
		}
		if n, e := tower.Cmp(k.Tower, x, y); e != api.OK || n != v.Cmp(w) {
			t.Fatal("P5.4: Cmp of", text(x), "and", text(y), "in", towerText(k.Tower), n, e)
		}
		reciprocal, e := tower.Inv(k.Tower, x)
		if v.Sign() != 0 {
			k.check(t, "P5.5: Inv", reciprocal, e, inverse(v))
			if _, second := reciprocal[:len(x)/2], reciprocal[len(x)/2:]; len(x) > 1 && rational.Sign(second[0]) == 0 {
				conjugates++
			}
		} else if zeros++; e != api.ErrZero || len(reciprocal) > 0 {
			t.Fatal("P5.5: Inv of", text(x), "in", towerText(k.Tower), e)
		}
		k.checkSqrt(t, x, v)
		bits := source.Intn(20) - 8
		if n, e := tower.Floor(k.Tower, x, bits); e != api.OK || !equalRat(api.Rat{Num: n, Den: integer.Of(1)}, fromRat(floorOf(v, bits))) {
			t.Fatal("P5.7, P5.11: Floor of", text(x), bits, "in", towerText(k.Tower), n, e)
		}
	}
	if zeros < 200 || conjugates < 100 {
		t.Error("too few elements with the value 0, or with a conjugate with the value 0:", zeros, conjugates)
	}
}

// checkSqrt checks the square root of an element with the value v.
func (k known) checkSqrt(t *testing.T, x []api.Rat, v *big.Rat) {
	t.Helper()
	r, e := sqrt(k.Tower, x)
	if v.Sign() < 0 {
		if e != api.ErrNegative || !equalRoot(r, root{}) {
			t.Fatal("P5.6: Sqrt of", text(x), "in", towerText(k.Tower), e)
		}
		return
	}
	square, f := tower.Mul(r.tower, r.x, r.x)
	n, g := tower.Cmp(r.tower, square, x)
	if e != api.OK || f != api.OK || g != api.OK || n != 0 || tower.Check(r.tower) != api.OK {
		t.Fatal("P5.6, P5.10: Sqrt of", text(x), "in", towerText(k.Tower), e)
	}
	if s, e := tower.Sign(r.tower, r.x); e != api.OK || s != v.Sign() {
		t.Fatal("P5.6, P5.10: the sign of Sqrt of", text(x), "in", towerText(k.Tower), s, e)
	}
}
