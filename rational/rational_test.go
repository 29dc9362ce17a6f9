package rational_test

import (
	"math"
	"math/big"
	"math/rand"
	"testing"

	"straightedge/api"
	"straightedge/integer"
	"straightedge/rational"
)

func TestValid(t *testing.T) {
	for i, a := range invalid() {
		if rational.Valid(a) {
			t.Errorf("P2.1: invalid number %d is valid", i)
		}
	}
	if !rational.Valid(api.Rat{Num: api.Int{Mag: []uint32{}}, Den: integer.Of(1)}) {
		t.Error("P2.1: 0/1 with an empty slice")
	}
	pairs(func(x, y *big.Rat) {
		if !rational.Valid(fromRat(x)) || !rational.Valid(fromRat(y)) {
			t.Fatal("P2.1: a number that is not valid:", x, y)
		}
		common := new(big.Int).GCD(nil, nil, new(big.Int).Abs(x.Num()), new(big.Int).Abs(y.Num()))
		r := api.Rat{Num: fromBig(x.Num()), Den: fromBig(y.Num())}
		if want := y.Sign() > 0 && common.Cmp(big.NewInt(1)) == 0; rational.Valid(r) != want {
			t.Fatal("P2.1: Valid is not", want, ":", x.Num(), y.Num())
		}
	})
}

func TestMake(t *testing.T) {
	pairs(func(x, y *big.Rat) {
		num, den := x.Num(), y.Num()
		got, e := rational.Make(fromBig(num), fromBig(den))
		if den.Sign() == 0 {
			checkFailure(t, "P2.1: Make", got, e, api.ErrZero, x, y)
			return
		}
		checkRat(t, "P2.1: Make", got, e, over(num, den), x, y)
	})
	source := rand.New(rand.NewSource(2))
	for range 200 {
		common := drawInt(source, api.MaxLimbs/2)
		num, den := drawInt(source, api.MaxLimbs/2), drawInt(source, api.MaxLimbs/2)
		if num.Mul(num, common); den.Mul(den, common).Sign() != 0 {
			got, e := rational.Make(fromBig(num), fromBig(den))
			checkRat(t, "P2.1: Make with a common divisor", got, e, over(num, den))
		}
	}
}

func TestMakeErrors(t *testing.T) {
	bad := []api.Int{{Neg: true}, {Mag: []uint32{0}}, {Mag: []uint32{1, 0}}, {Neg: true, Mag: []uint32{0}}, fromBig(power(maxBits, 0)), {Mag: make([]uint32, 1<<20)}}
	for _, n := range bad {
		// ErrArg comes before the denominator 0.
		for _, other := range []api.Int{integer.Of(0), integer.Of(1), integer.Of(-7), n} {
			got, e := rational.Make(n, other)
			checkFailure(t, "P2.1: Make of an invalid numerator", got, e, api.ErrArg)
			got, e = rational.Make(other, n)
			checkFailure(t, "P2.1: Make of an invalid denominator", got, e, api.ErrArg)
		}
	}
	got, e := rational.Make(integer.Of(0), integer.Of(0))
	checkFailure(t, "P2.1: Make of 0 and 0", got, e, api.ErrZero)
}

func TestOf(t *testing.T) {
	numbers := []int{0, 1, -1, 2, 3, -6, 8, 1 << 32, -3 << 32, math.MaxInt64, math.MinInt64, math.MinInt64 + 1}
	for _, n := range numbers {
		for _, d := range numbers {
			got, e := rational.Of(n, d)
			if d == 0 {
				checkFailure(t, "P2.1: Of", got, e, api.ErrZero)
				continue
			}
			checkRat(t, "P2.1: Of", got, e, over(big.NewInt(int64(n)), big.NewInt(int64(d))))
		}
	}
}

// checkCmp checks the order of two numbers, both ways.
func checkCmp(t *testing.T, x, y *big.Rat) {
	t.Helper()
	if got, e := rational.Cmp(fromRat(x), fromRat(y)); e != api.OK || got != x.Cmp(y) {
		t.Fatalf("P2.3: Cmp(%v, %v): %d, error %d", x, y, got, e)
	}
	if got, e := rational.Cmp(fromRat(y), fromRat(x)); e != api.OK || got != y.Cmp(x) {
		t.Fatalf("P2.3: Cmp(%v, %v): %d, error %d", y, x, got, e)
	}
}

func TestCmp(t *testing.T) {
	pairs(func(x, y *big.Rat) {
		checkCmp(t, x, y)
		checkCmp(t, x, x)
	})
}

// neighbours returns pairs of numbers that differ by as little as possible: their terms are within the limit, but the products of these are not.
func neighbours() [][2]*big.Rat {
	var found [][2]*big.Rat
	for _, plus := range []int64{-1, -2, -1001} {
		n := power(maxBits, plus)
		less, least := new(big.Int).Sub(n, big.NewInt(1)), new(big.Int).Sub(n, big.NewInt(2))
		found = append(found, [2]*big.Rat{over(least, less), over(less, n)}, [2]*big.Rat{over(big.NewInt(1), n), over(big.NewInt(1), less)})
	}
	// The continued fractions of the ratios of Fibonacci's numbers agree for the longest time.
	a, b := big.NewInt(1), big.NewInt(1)
	for b.BitLen() <= maxBits {
		next := new(big.Int).Add(a, b)
		if next.BitLen() > maxBits-3 && fits(next) {
			low, high := over(a, b), over(b, next)
			if low.Cmp(high) > 0 {
				low, high = high, low
			}
			found = append(found, [2]*big.Rat{low, high})
		}
		a, b = b, next
	}
	return found
}

func TestCmpWhateverSize(t *testing.T) {
	for _, p := range neighbours() {
		x, y := p[0], p[1]
		minusX, minusY := new(big.Rat).Neg(x), new(big.Rat).Neg(y)
		for _, q := range [][2]*big.Rat{{x, y}, {x, x}, {minusY, minusX}, {minusX, minusX}, {minusX, x}, {minusX, y}} {
			checkCmp(t, q[0], q[1])
		}
	}
	most := over(power(maxBits, -1), big.NewInt(1))
	// Only one of the products is too big.
	for _, y := range []*big.Rat{fraction(1, 2), fraction(-1, 2), fraction(0, 1), over(power(maxBits, -2), big.NewInt(3)), over(power(maxBits, -1), power(maxBits, -2))} {
		checkCmp(t, most, y)
		checkCmp(t, new(big.Rat).Neg(most), y)
	}
}

func TestSign(t *testing.T) {
	pairs(func(x, _ *big.Rat) {
		if got := rational.Sign(fromRat(x)); got != x.Sign() {
			t.Fatal("P2.3: Sign:", x, got)
		}
	})
	for i, a := range invalid() {
		if got := rational.Sign(a); got != 0 {
			t.Error("P2.3: Sign of invalid number", i, got)
		}
	}
}

// floor returns the greatest integer that is not greater than x * 2^bits.
func floor(x *big.Rat, bits int) *big.Int {
	num, den := new(big.Int).Set(x.Num()), new(big.Int).Set(x.Denom())
	if bits > 0 {
		num.Lsh(num, uint(bits))
	} else {
		den.Lsh(den, uint(-bits))
	}
	// The denominator is positive, so that Euclidean division rounds down.
	return num.Div(num, den)
}

// checkFloor checks one call. The oracle is only asked for numbers of bits that matter.
func checkFloor(t *testing.T, x *big.Rat, bits int) {
	t.Helper()
	got, e := rational.Floor(fromRat(x), bits)
	clamped := min(max(bits, -2*maxBits), 2*maxBits)
	if clamped > 0 && x.Num().BitLen() > maxBits-clamped && x.Sign() != 0 {
		if e != api.ErrTooBig || !isZeroInt(got) {
			t.Fatalf("P2.4: Floor(%v, %d): error %d, not ErrTooBig", x, bits, e)
		}
		return
	}
	if want := floor(x, clamped); e != api.OK || !sameInt(got, fromBig(want)) {
		t.Fatalf("P2.4: Floor(%v, %d): error %d with %v, not %v", x, bits, e, toBig(got), want)
	}
}

func TestFloor(t *testing.T) {
	distances := []int{0, 1, -1, 2, -2, 31, 32, 33, -32, -33, maxBits - 1, maxBits, maxBits + 1, -maxBits + 1, -maxBits, -maxBits - 1, math.MaxInt64, math.MinInt64, math.MinInt64 + 1}
	for _, bits := range distances {
		for _, x := range edges() {
			checkFloor(t, x, bits)
		}
	}
	source := rand.New(rand.NewSource(3))
	for range 1000 {
		x := draw(source, api.MaxLimbs)
		checkFloor(t, x, source.Intn(2*maxBits)-maxBits)
		// As many bits as there is room for, and one more: the quotient is not too big.
		checkFloor(t, x, maxBits-x.Num().BitLen())
		checkFloor(t, x, maxBits-x.Num().BitLen()+1)
	}
	for _, x := range []struct{ bits, want int }{{0, -4}, {1, -7}, {-1, -2}} {
		if got, e := rational.Floor(fromRat(fraction(-7, 2)), x.bits); e != api.OK || !sameInt(got, integer.Of(x.want)) {
			t.Error("P2.4: Floor(-7/2):", x.bits, got, e)
		}
	}
}

func TestFloorOfInvalid(t *testing.T) {
	for i, bad := range invalid() {
		for _, bits := range []int{0, 1, -1, math.MaxInt64, math.MinInt64} {
			if got, e := rational.Floor(bad, bits); e != api.ErrArg || !isZeroInt(got) {
				t.Error("P2.4: Floor of invalid number", i, bits, e)
			}
		}
	}
}

// checkSqrt checks the square root of a number.
func checkSqrt(t *testing.T, x *big.Rat) {
	t.Helper()
	got, is, e := rational.Sqrt(fromRat(x))
	if x.Sign() < 0 {
		if is {
			t.Fatal("P2.5: true with an error:", x)
		}
		checkFailure(t, "P2.5: Sqrt", got, e, api.ErrNegative, x)
		return
	}
	root := over(new(big.Int).Sqrt(x.Num()), new(big.Int).Sqrt(x.Denom()))
	if want := new(big.Rat).Mul(root, root).Cmp(x) == 0; is != want {
		t.Fatal("P2.5: Sqrt:", x, is)
	}
	if is {
		checkRat(t, "P2.5: Sqrt", got, e, root, x)
	} else {
		checkFailure(t, "P2.5: Sqrt", got, e, api.OK, x)
	}
}

func TestSqrt(t *testing.T) {
	for n := int64(-3); n <= 50; n++ {
		for d := int64(1); d <= 50; d++ {
			checkSqrt(t, fraction(n, d))
		}
	}
	for _, x := range edges() {
		checkSqrt(t, x)
	}
	source := rand.New(rand.NewSource(4))
	for range 300 {
		checkSqrt(t, draw(source, api.MaxLimbs))
		x := draw(source, api.MaxLimbs/2)
		square := x.Mul(x, x)
		checkSqrt(t, square)
		checkSqrt(t, new(big.Rat).Neg(square))
		// Only one of the terms is a square.
		checkSqrt(t, over(new(big.Int).Add(square.Num(), big.NewInt(1)), square.Denom()))
		checkSqrt(t, over(new(big.Int).Add(square.Num(), square.Denom()), square.Denom()))
	}
	for i, bad := range invalid() {
		if got, is, e := rational.Sqrt(bad); e != api.ErrArg || is || !isZeroValue(got) {
			t.Error("P2.5: Sqrt of invalid number", i, is, e)
		}
	}
}
