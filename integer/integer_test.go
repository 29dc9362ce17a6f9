package integer_test

import (
	"math"
	"math/big"
	"math/rand"
	"strconv"
	"testing"

	"straightedge/api"
	"straightedge/integer"
)

func TestValid(t *testing.T) {
	for i, a := range invalid() {
		if integer.Valid(a) {
			t.Errorf("P1.1: invalid integer %d is valid", i)
		}
	}
	longest := make([]uint32, api.MaxLimbs)
	longest[api.MaxLimbs-1] = 1
	for i, a := range []api.Int{{}, {Mag: []uint32{}}, {Mag: []uint32{1}}, {Neg: true, Mag: []uint32{1}}, {Mag: []uint32{0, 1}}, {Mag: longest}, {Neg: true, Mag: longest}} {
		if !integer.Valid(a) {
			t.Errorf("P1.1: valid integer %d is not valid", i)
		}
	}
}

func TestOf(t *testing.T) {
	if a := integer.Of(-1); !same(a, api.Int{Neg: true, Mag: []uint32{1}}) {
		t.Error("P1.1: Of(-1):", a)
	}
	if a := integer.Of(4294967296); !same(a, api.Int{Mag: []uint32{0, 1}}) {
		t.Error("P1.1: Of(2^32):", a)
	}
	for _, n := range []int{0, 1, -1, 1<<32 - 1, 1 << 32, -1 << 32, 1<<32 + 1, math.MaxInt64, math.MinInt64, math.MinInt64 + 1} {
		checkInt(t, "P1.1: Of", integer.Of(n), api.OK, big.NewInt(int64(n)))
	}
}

func TestAddSubMul(t *testing.T) {
	pairs(func(x, y *big.Int) {
		a, b := fromBig(x), fromBig(y)
		got, e := integer.Add(a, b)
		checkInt(t, "P1.2: Add", got, e, new(big.Int).Add(x, y), x, y)
		got, e = integer.Sub(a, b)
		checkInt(t, "P1.2: Sub", got, e, new(big.Int).Sub(x, y), x, y)
		got, e = integer.Mul(a, b)
		checkInt(t, "P1.2: Mul", got, e, new(big.Int).Mul(x, y), x, y)
	})
}

func TestDivMod(t *testing.T) {
	for _, x := range []struct{ a, b, quot, rest int }{
		{-7, 2, -4, 1}, {7, -2, -4, -1}, {7, 2, 3, 1}, {-7, -2, 3, -1},
		{6, -2, -3, 0}, {-6, 2, -3, 0}, {0, -5, 0, 0}, {1, -5, -1, -4}, {-1, 5, -1, 4},
	} {
		quot, rest, e := integer.DivMod(integer.Of(x.a), integer.Of(x.b))
		args := []*big.Int{big.NewInt(int64(x.a)), big.NewInt(int64(x.b))}
		checkInt(t, "P1.3: quotient", quot, e, big.NewInt(int64(x.quot)), args...)
		checkInt(t, "P1.3: remainder", rest, e, big.NewInt(int64(x.rest)), args...)
	}
	pairs(func(x, y *big.Int) {
		quot, rest, e := integer.DivMod(fromBig(x), fromBig(y))
		if y.Sign() == 0 {
			if e != api.ErrZero || !isZeroValue(quot) || !isZeroValue(rest) {
				t.Fatal("P1.3: division by zero:", quot, rest, e)
			}
			return
		}
		wantQuot, wantRest := new(big.Int).QuoRem(x, y, new(big.Int))
		if wantRest.Sign() != 0 && wantRest.Sign() != y.Sign() {
			wantQuot.Sub(wantQuot, big.NewInt(1))
			wantRest.Add(wantRest, y)
		}
		checkInt(t, "P1.3: quotient", quot, e, wantQuot, x, y)
		checkInt(t, "P1.3: remainder", rest, e, wantRest, x, y)
	})
}

// checkGCD checks the greatest common divisor of two numbers.
func checkGCD(t *testing.T, x, y *big.Int) {
	t.Helper()
	got, e := integer.GCD(fromBig(x), fromBig(y))
	want := new(big.Int).GCD(nil, nil, new(big.Int).Abs(x), new(big.Int).Abs(y))
	checkInt(t, "P1.3: GCD", got, e, want, x, y)
}

func TestGCD(t *testing.T) {
	checkGCD(t, big.NewInt(-12), big.NewInt(18))
	checkGCD(t, big.NewInt(0), big.NewInt(0))
	checkGCD(t, big.NewInt(0), big.NewInt(-5))
	pairs(func(x, y *big.Int) { checkGCD(t, x, y) })
	source := rand.New(rand.NewSource(2))
	for range 2000 {
		x, y, common := draw(source, api.MaxLimbs/2), draw(source, api.MaxLimbs/2), draw(source, api.MaxLimbs/2)
		checkGCD(t, x.Mul(x, common), y.Mul(y, common))
	}
	// Neighbours in Fibonacci's sequence, and their multiples, take the most steps.
	last, now := big.NewInt(0), big.NewInt(1)
	for now.BitLen() <= maxBits {
		checkGCD(t, last, now)
		if now.BitLen() <= maxBits-64 {
			common := new(big.Int).SetUint64(source.Uint64())
			checkGCD(t, new(big.Int).Mul(last, common), new(big.Int).Mul(now, common))
		}
		last, now = now, last.Add(last, now)
	}
}

func TestCmp(t *testing.T) {
	pairs(func(x, y *big.Int) {
		if got, e := integer.Cmp(fromBig(x), fromBig(y)); e != api.OK || got != x.Cmp(y) {
			t.Fatalf("P1.3: Cmp(%v, %v): %d, error %d", x, y, got, e)
		}
		if got, e := integer.Cmp(fromBig(x), fromBig(x)); e != api.OK || got != 0 {
			t.Fatalf("P1.3: Cmp(%v, %v): %d, error %d", x, x, got, e)
		}
	})
}

// checkSqrt checks the square root of a number.
func checkSqrt(t *testing.T, x *big.Int) {
	t.Helper()
	got, exact, e := integer.Sqrt(fromBig(x))
	if x.Sign() < 0 {
		if e != api.ErrNegative || exact || !isZeroValue(got) {
			t.Fatalf("P1.4: Sqrt(%v): %v, %t, error %d", x, got, exact, e)
		}
		return
	}
	want := new(big.Int).Sqrt(x)
	checkInt(t, "P1.4: Sqrt", got, e, want, x)
	if exact != (new(big.Int).Mul(want, want).Cmp(x) == 0) {
		t.Fatalf("P1.4: Sqrt(%v): %t", x, exact)
	}
}

func TestSqrt(t *testing.T) {
	for n := int64(-3); n < 5000; n++ {
		checkSqrt(t, big.NewInt(n))
	}
	for _, x := range edges() {
		checkSqrt(t, x)
	}
	source := rand.New(rand.NewSource(3))
	one := big.NewInt(1)
	for range 1000 {
		checkSqrt(t, draw(source, api.MaxLimbs))
		x := draw(source, api.MaxLimbs/2)
		x.Mul(x, x)
		checkSqrt(t, x)
		if x.Sign() > 0 {
			checkSqrt(t, new(big.Int).Sub(x, one))
			checkSqrt(t, x.Add(x, one))
		}
	}
}

// checkShift checks one shift. The oracle is only asked for distances that matter.
func checkShift(t *testing.T, x *big.Int, n int) {
	t.Helper()
	got, e := integer.Shift(fromBig(x), n)
	clamped := min(max(n, -2*maxBits), 2*maxBits)
	want := new(big.Int)
	if clamped >= 0 {
		want.Lsh(x, uint(clamped))
	} else {
		want.Rsh(x, uint(-clamped))
	}
	checkInt(t, "P1.4: Shift by "+strconv.Itoa(n)+" of", got, e, want, x)
}

func TestShift(t *testing.T) {
	distances := []int{0, 1, -1, 31, -31, 32, -32, 33, -33, 63, -63, 64, -64, 2048, -2048,
		maxBits - 1, maxBits, maxBits + 1, -maxBits + 1, -maxBits, -maxBits - 1, math.MaxInt64, math.MinInt64, math.MinInt64 + 1}
	for _, n := range distances {
		checkShift(t, big.NewInt(-5), n)
		checkShift(t, big.NewInt(3), n)
		for _, x := range edges() {
			checkShift(t, x, n)
		}
	}
	source := rand.New(rand.NewSource(4))
	for range 4000 {
		x := draw(source, api.MaxLimbs)
		checkShift(t, x, source.Intn(2*maxBits)-maxBits)
		checkShift(t, x, maxBits-x.BitLen())
		checkShift(t, x, maxBits-x.BitLen()+1)
		checkShift(t, x, -int(new(big.Int).Abs(x).TrailingZeroBits()))
		checkShift(t, x, -int(new(big.Int).Abs(x).TrailingZeroBits())-1)
	}
}

func TestBits(t *testing.T) {
	pairs(func(x, _ *big.Int) {
		if n, e := integer.Bits(fromBig(x)); e != api.OK || n != x.BitLen() {
			t.Fatalf("P1.4: Bits(%v): %d, error %d", x, n, e)
		}
	})
	if n, e := integer.Bits(integer.Of(-8)); n != 4 || e != api.OK {
		t.Error("P1.4: Bits(-8):", n, e)
	}
}

func TestSmall(t *testing.T) {
	pairs(func(x, _ *big.Int) {
		n, ok := integer.Small(fromBig(x))
		if ok != x.IsInt64() || ok && int64(n) != x.Int64() || !ok && n != 0 {
			t.Fatalf("P1.4: Small(%v): %d, %t", x, n, ok)
		}
	})
	for i, a := range append(invalid(), api.Int{Mag: []uint32{0, 0, 1}}) {
		if n, ok := integer.Small(a); n != 0 || ok {
			t.Errorf("P1.4: Small of integer %d: %d, %t", i, n, ok)
		}
	}
}

func TestInvalidArguments(t *testing.T) {
	for i, bad := range invalid() {
		// ErrArg comes before the errors for a zero divisor, a negative radicand and a big result.
		for _, other := range []api.Int{{}, integer.Of(-3), fromBig(power(maxBits, -1)), bad} {
			for _, p := range [][2]api.Int{{bad, other}, {other, bad}} {
				sum, e1 := integer.Add(p[0], p[1])
				rest, e2 := integer.Sub(p[0], p[1])
				product, e3 := integer.Mul(p[0], p[1])
				if e1 != api.ErrArg || e2 != api.ErrArg || e3 != api.ErrArg || !isZeroValue(sum) || !isZeroValue(rest) || !isZeroValue(product) {
					t.Error("P1.2: invalid integer", i, e1, e2, e3)
				}
				quot, mod, e1 := integer.DivMod(p[0], p[1])
				common, e2 := integer.GCD(p[0], p[1])
				order, e3 := integer.Cmp(p[0], p[1])
				if e1 != api.ErrArg || e2 != api.ErrArg || e3 != api.ErrArg || !isZeroValue(quot) || !isZeroValue(mod) || !isZeroValue(common) || order != 0 {
					t.Error("P1.3: invalid integer", i, e1, e2, e3)
				}
			}
		}
		root, exact, e1 := integer.Sqrt(bad)
		bits, e2 := integer.Bits(bad)
		if e1 != api.ErrArg || e2 != api.ErrArg || !isZeroValue(root) || exact || bits != 0 {
			t.Error("P1.4: invalid integer", i, e1, e2)
		}
		for _, n := range []int{0, 1, -1, maxBits, math.MinInt64, math.MaxInt64} {
			if shifted, e := integer.Shift(bad, n); e != api.ErrArg || !isZeroValue(shifted) {
				t.Error("P1.4: invalid integer", i, n, e)
			}
		}
		if text, e := integer.Text(bad); e != api.ErrArg || text != "" {
			t.Error("P1.5: invalid integer", i, e)
		}
	}
}
