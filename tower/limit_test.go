package tower_test

import (
	"math"
	"math/big"
	"math/rand"
	"testing"

	"straightedge/api"
	"straightedge/tower"
)

// outcomes counts the errors of a function.
type outcomes map[string]map[api.Errno]int

func (o outcomes) add(what string, e api.Errno) {
	if o[what] == nil {
		o[what] = map[api.Errno]int{}
	}
	o[what][e]++
}

// bothSides checks that each function was tried often enough on both sides of the limit.
func (o outcomes) bothSides(t *testing.T, least int) {
	t.Helper()
	for what, counts := range o {
		if counts[api.OK] < least || counts[api.ErrTooBig] < least {
			t.Error("too few calls on one side of the limit:", what, counts)
		}
	}
}

// drawBits returns a number of bits from 1 to most. Half of them are great; of the others, small ones are as likely as great ones.
func drawBits(source *rand.Rand, most int) int {
	if source.Intn(2) == 0 {
		return most - source.Intn(most/2)
	}
	return int(math.Exp(source.Float64() * math.Log(float64(most))))
}

func TestLimits(t *testing.T) {
	source := rand.New(rand.NewSource(58))
	o := outcomes{}
	for range 1200 {
		levels := source.Intn(4)
		u := drawShaped(source, levels, drawBits(source, 3000))
		if levels > 0 && source.Intn(2) == 0 {
			u.Radicands[0] = ints(2)
		}
		x, y := draw(source, levels, drawBits(source, 4000)), draw(source, levels, drawBits(source, 4000))
		o.add("Check", checkCheck(t, u))
		o.add("Add", checkAdd(t, u, x, y))
		o.add("Sub", checkSub(t, u, x, y))
		o.add("Mul", checkMul(t, u, x, y))
		o.add("Sign", checkSign(t, u, x))
		o.add("Cmp", checkCmp(t, u, x, y))
		o.add("Inv", checkInv(t, u, x))
		o.add("Sqrt", checkSqrt(t, u, x))
	}
	o.bothSides(t, 50)
}

func TestLimitsOfFloor(t *testing.T) {
	source := rand.New(rand.NewSource(59))
	o := outcomes{}
	for range 200 {
		levels := source.Intn(3)
		u := drawShaped(source, levels, drawBits(source, 500))
		x := draw(source, levels, drawBits(source, 1500))
		bits := drawBits(source, 1200) * (1 - 2*source.Intn(2))
		o.add("Floor", checkFloor(t, u, x, bits))
	}
	o.bothSides(t, 20)
}

// TestContracts compares with the contracts where nothing is too big, but towers of all kinds occur, up to the greatest number of levels.
func TestContracts(t *testing.T) {
	source := rand.New(rand.NewSource(60))
	for i := range 600 {
		levels := i % (api.MaxLevels + 1)
		u := drawShaped(source, levels, 2)
		if source.Intn(2) == 0 {
			u = drawTower(source, levels, 2)
		}
		x, y := draw(source, levels, 2), draw(source, levels, 2)
		checkCheck(t, u)
		checkAdd(t, u, x, y)
		checkSub(t, u, x, y)
		checkMul(t, u, x, y)
		checkSign(t, u, x)
		checkCmp(t, u, x, y)
		checkInv(t, u, x)
		checkSqrt(t, u, x)
		if levels < 4 || i < 30 {
			checkFloor(t, u, x, source.Intn(7)-3)
		}
	}
}

// TestZeroDivisors compares with the contracts in towers where many elements have the value 0.
func TestZeroDivisors(t *testing.T) {
	source := rand.New(rand.NewSource(61))
	for range 100 {
		k := drawKnown(source, source.Intn(4))
		x := k.drawElement(source)
		checkSign(t, k.Tower, x)
		checkInv(t, k.Tower, x)
		checkSqrt(t, k.Tower, x)
		checkFloor(t, k.Tower, x, source.Intn(5)-2)
		// The same elements where a radicand is not positive.
		if n := len(k.Radicands); n > 0 {
			k.Radicands[source.Intn(n)] = ints(source.Intn(3) - 2)
			checkSign(t, k.Tower, x)
			checkInv(t, k.Tower, x)
			checkSqrt(t, k.Tower, x)
			checkFloor(t, k.Tower, x, 0)
		}
	}
}

// limitCase is a call of which a single operation decides whether it is too big.
type limitCase struct {
	what string
	call func() api.Errno
	want api.Errno
}

func checkLimits(t *testing.T, cases []limitCase) {
	t.Helper()
	for i, x := range cases {
		if e := x.call(); e != x.want {
			t.Error(x.what, i, "error", e, "and not", x.want)
		}
	}
}

// The numbers of the limits: the square of half is too big, and that of less is not.
var (
	zero, one, minusOne = new(big.Rat), big.NewRat(1, 1), big.NewRat(-1, 1)
	most                = wide(limbBits, -1)
	half                = wide(limbBits/2, 0)
	less                = wide(limbBits/2, -1)
)

func TestLimitsOfArithmetic(t *testing.T) {
	call := func(f func(t api.Tower, x, y []api.Rat) ([]api.Rat, api.Errno), x, y []api.Rat) func() api.Errno {
		return func() api.Errno { _, e := f(read("2", "3"), x, y); return e }
	}
	quarter := wide(limbBits-2, 0)
	double := wide(limbBits-1, 0)
	checkLimits(t, []limitCase{
		{"P5.2: a sum", call(tower.Add, numbers(most, most), numbers(one)), api.ErrTooBig},
		{"P5.2: a sum with a zero", call(tower.Add, numbers(one, most), numbers(one)), api.OK},
		{"P5.2: a sum with a zero", call(tower.Add, numbers(one), numbers(one, most, inverse(most), most)), api.OK},
		{"P5.2: the last sum", call(tower.Add, numbers(one, one), numbers(one, most)), api.ErrTooBig},
		{"P5.2: a difference", call(tower.Sub, numbers(one, one), numbers(one, minus(most))), api.ErrTooBig},
		{"P5.2: a difference with a zero", call(tower.Sub, numbers(one), numbers(zero, most)), api.OK},
		{"P5.3: a product", call(tower.Mul, numbers(half), numbers(half)), api.ErrTooBig},
		{"P5.3: a product with a zero", call(tower.Mul, numbers(most, most), numbers(one)), api.OK},
		{"P5.3: a product with a zero", call(tower.Mul, numbers(one), numbers(zero, most, most, zero)), api.OK},
		{"P5.3: q r", call(tower.Mul, numbers(zero, most), numbers(zero, one)), api.ErrTooBig},
		{"P5.3: q r", call(tower.Mul, numbers(zero, wide(limbBits-1, -1)), numbers(zero, one)), api.OK},
		{"P5.3: p + q r", call(tower.Mul, numbers(double, quarter), numbers(one, one)), api.ErrTooBig},
		{"P5.3: u + v", call(tower.Mul, numbers(double, double), numbers(minusOne, minusOne)), api.ErrTooBig},
		{"P5.3: u + v", call(tower.Mul, numbers(quarter, quarter), numbers(one, one)), api.OK},
	})
}

func TestLimitsOfSigns(t *testing.T) {
	u := read("2", "3")
	far := roots(ints(2), numbers(most, most), numbers(half, minusOne))
	sign := func(l ...*big.Rat) func() api.Errno {
		return func() api.Errno { _, e := tower.Sign(u, numbers(l...)); return e }
	}
	order := func(x, y []api.Rat) func() api.Errno {
		return func() api.Errno { _, e := tower.Cmp(u, x, y); return e }
	}
	check := func(t api.Tower) func() api.Errno {
		return func() api.Errno { return tower.Check(t) }
	}
	checkLimits(t, []limitCase{
		{"P5.1: a sign", check(far), api.ErrTooBig},
		{"P5.1: no sign", check(roots(far.Radicands[:2]...)), api.OK},
		{"P5.4: equal signs", sign(most, most), api.OK},
		{"P5.4: the second half 0", sign(minus(most), zero), api.OK},
		{"P5.4: the first half 0", sign(zero, most), api.OK},
		{"P5.4: a a", sign(half, minusOne), api.ErrTooBig},
		{"P5.4: a a", sign(less, minusOne), api.OK},
		{"P5.4: b b", sign(minusOne, half), api.ErrTooBig},
		{"P5.4: b b r", sign(minusOne, less), api.ErrTooBig},
		{"P5.4: b b r", sign(minusOne, wide(limbBits/2-1, -1)), api.OK},
		{"P5.4: the denominators of a a - b b r", sign(one, minus(inverse(less))), api.OK},
		{"P5.4: the denominators of a a - b b r", sign(inverse(wide(1025, 1)), minus(inverse(wide(1024, 1)))), api.ErrTooBig},
		{"P5.4: both halves are examined", sign(zero, zero, half, minusOne), api.ErrTooBig},
		{"P5.4: both halves are examined", sign(half, minusOne, zero, zero), api.ErrTooBig},
		{"P5.4: the second half is examined", sign(one, one, half, minusOne), api.ErrTooBig},
		{"P5.4: the lifted difference", order(numbers(most, one), ints(-1)), api.ErrTooBig},
		{"P5.4: the lifted difference", order(numbers(most, one), ints(1)), api.OK},
	})
}

func TestLimitsOfInverses(t *testing.T) {
	u := read("2", "3")
	inv := func(l ...*big.Rat) func() api.Errno {
		return func() api.Errno { _, e := tower.Inv(u, numbers(l...)); return e }
	}
	root := func(l ...*big.Rat) func() api.Errno {
		return func() api.Errno { _, e := sqrt(u, numbers(l...)); return e }
	}
	// The products of such a number and w are the first numbers that are too big; the norm is not.
	nearOne := func(bits int) *big.Rat { return new(big.Rat).Quo(wide(bits, 1), wide(bits, -1)) }
	checkLimits(t, []limitCase{
		{"P5.5: a rational number", inv(most), api.OK},
		{"P5.5: the norm", inv(most, zero), api.ErrTooBig},
		{"P5.5: the norm", inv(less, zero), api.OK},
		{"P5.5: the norm, where the sign needs none", inv(half, one), api.ErrTooBig},
		{"P5.5: the sign", inv(half, minusOne), api.ErrTooBig},
		{"P5.5: a w", inv(nearOne(1300), inverse(wide(400, 0))), api.ErrTooBig},
		{"P5.5: a w", inv(nearOne(650), inverse(wide(200, 0))), api.OK},
		{"P5.5: b w", inv(inverse(wide(400, 0)), nearOne(1300)), api.ErrTooBig},
		{"P5.5: b w", inv(inverse(wide(200, 0)), nearOne(650)), api.OK},
		{"P5.6: no operation", root(most, most), api.OK},
		{"P5.6: no operation", root(most, zero), api.OK},
		{"P5.6: the sign", root(half, minusOne), api.ErrTooBig},
		{"P5.6: the sign of zero", root(zero, zero), api.OK},
	})
}

func TestFloorAtTheLimit(t *testing.T) {
	u := read("2")
	for i, x := range []struct {
		what string
		x    []api.Rat
		bits int
		want *big.Rat // nil: too big
	}{
		{"level 0", numbers(wide(limbBits, -1)), 0, wide(limbBits, -1)},
		{"level 0", numbers(wide(limbBits-1, -1)), 1, wide(limbBits, -2)},
		{"level 0", numbers(wide(limbBits-1, 0)), 1, nil},
		{"level 0", numbers(inverse(wide(200, 0))), -4000, zero},
		{"level 0", numbers(wide(90, 0)), 4000, wide(4090, 0)},
		{"level 0", numbers(wide(96, 0)), 4000, nil},
		{"a product", numbers(wide(90, 0), zero), 4000, wide(4090, 0)},
		{"a product", numbers(wide(96, 0), zero), 4000, nil},
		{"the second product", numbers(zero, wide(96, 0)), 4000, nil},
		{"a product", numbers(inverse(wide(90, 0)), zero), -4000, zero},
		{"a product", numbers(inverse(wide(96, 0)), zero), -4000, nil},
		{"a product", numbers(zero, inverse(wide(96, 0))), -4000, nil},
		{"a reduced product", numbers(inverse(wide(4000, 0)), zero), 4000, one},
		{"a reduced product", numbers(wide(4000, 0), zero), -4000, one},
		// 1 is the first power of two, and 2 the next one.
		{"the first power", numbers(inverse(wide(limbBits-1, 0)), zero), 0, zero},
		{"the first power", numbers(minus(inverse(wide(limbBits-1, 0))), zero), 0, minus(one)},
		{"the second power", numbers(new(big.Rat).Add(one, inverse(wide(limbBits-1, 0))), zero), 0, nil},
		{"the second power", numbers(new(big.Rat).Add(one, inverse(wide(limbBits-2, 0))), zero), 0, one},
		// The range from -2^k to 2^k has the width 2^(k+1).
		{"the widest range", numbers(wide(limbBits-2, -1), zero), 0, wide(limbBits-2, -1)},
		{"the widest range", numbers(minus(wide(limbBits-2, 0)), zero), 0, minus(wide(limbBits-2, 0))},
		{"a width beyond the limit", numbers(wide(limbBits-2, 0), zero), 0, nil},
		{"a width beyond the limit", numbers(minus(wide(limbBits-2, 1)), zero), 0, nil},
		{"no bound", numbers(wide(limbBits-1, 0), zero), 0, nil},
		{"no bound", numbers(wide(limbBits, -1), zero), 0, nil},
		{"no bound", numbers(minus(wide(limbBits-1, 0)), zero), 0, nil},
		{"a sign", numbers(wide(2040, 0), one), 0, wide(2040, 1)},
		{"a sign", numbers(wide(2048, 0), one), 0, nil},
	} {
		n, e := tower.Floor(u, x.x, x.bits)
		if x.want == nil && (e != api.ErrTooBig || !equalInt(n, api.Int{})) || x.want != nil && (e != api.OK || !equalInt(n, fromRat(x.want).Num)) {
			t.Error("P5.7:", x.what, i, "error", e)
		}
		checkFloor(t, u, x.x, x.bits)
	}
}
