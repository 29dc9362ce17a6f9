package rational_test

import (
	"math/big"
	"math/rand"
	"slices"
	"testing"

	"straightedge/api"
	"straightedge/integer"
	"straightedge/rational"
)

const maxBits = 32 * api.MaxLimbs

// toBig returns the number that n is to stand for.
func toBig(n api.Int) *big.Int {
	x := new(big.Int)
	for i := len(n.Mag) - 1; i >= 0; i-- {
		x.Lsh(x, 32)
		x.Or(x, big.NewInt(int64(n.Mag[i])))
	}
	if n.Neg {
		x.Neg(x)
	}
	return x
}

// fromBig returns the integer of a number, which is not valid if the number is too big.
func fromBig(x *big.Int) api.Int {
	n := api.Int{Neg: x.Sign() < 0}
	limb := new(big.Int)
	for rest := new(big.Int).Abs(x); rest.Sign() > 0; rest.Rsh(rest, 32) {
		n.Mag = append(n.Mag, uint32(limb.And(rest, big.NewInt(0xffffffff)).Uint64()))
	}
	return n
}

// fromRat returns the rational number of a number.
func fromRat(x *big.Rat) api.Rat {
	return api.Rat{Num: fromBig(x.Num()), Den: fromBig(x.Denom())}
}

// toRat returns the number that a is to stand for, whose denominator is not 0.
func toRat(a api.Rat) *big.Rat {
	return new(big.Rat).SetFrac(toBig(a.Num), toBig(a.Den))
}

// fraction returns n / d.
func fraction(n, d int64) *big.Rat {
	return big.NewRat(n, d)
}

// power returns 2^n + plus.
func power(n int, plus int64) *big.Int {
	p := new(big.Int).Lsh(big.NewInt(1), uint(n))
	return p.Add(p, big.NewInt(plus))
}

// over returns n / d.
func over(n, d *big.Int) *big.Rat {
	return new(big.Rat).SetFrac(n, d)
}

func sameInt(a, b api.Int) bool {
	return a.Neg == b.Neg && slices.Equal(a.Mag, b.Mag)
}

func same(a, b api.Rat) bool {
	return sameInt(a.Num, b.Num) && sameInt(a.Den, b.Den)
}

func isZeroInt(n api.Int) bool {
	return !n.Neg && len(n.Mag) == 0
}

// isZeroValue reports whether a is the zero value, which is not a number.
func isZeroValue(a api.Rat) bool {
	return isZeroInt(a.Num) && isZeroInt(a.Den)
}

// fits reports whether all numbers are within the limit of integers.
func fits(numbers ...*big.Int) bool {
	for _, x := range numbers {
		if x.BitLen() > maxBits {
			return false
		}
	}
	return true
}

// checkRat checks that a result is the number.
func checkRat(t *testing.T, what string, got api.Rat, e api.Errno, want *big.Rat, args ...*big.Rat) {
	t.Helper()
	if e != api.OK || !same(got, fromRat(want)) {
		t.Fatalf("%s %v: error %d with %v, not %v", what, args, e, got, want)
	}
}

// checkFailure checks that a result is an error and a zero value.
func checkFailure(t *testing.T, what string, got api.Rat, e, want api.Errno, args ...*big.Rat) {
	t.Helper()
	if e != want || !isZeroValue(got) {
		t.Fatalf("%s %v: error %d with %v, not error %d", what, args, e, got, want)
	}
}

// ok returns a function that fails the test at an error.
func ok(t *testing.T) func(a api.Rat, e api.Errno) api.Rat {
	return func(a api.Rat, e api.Errno) api.Rat {
		t.Helper()
		if e != api.OK || !rational.Valid(a) {
			t.Fatal("error", e)
		}
		return a
	}
}

// edges are numbers near 0, near integers, and near the limit.
func edges() []*big.Rat {
	numbers := []*big.Rat{fraction(0, 1)}
	add := func(x *big.Rat) {
		if fits(x.Num(), x.Denom()) {
			numbers = append(numbers, x, new(big.Rat).Neg(x))
		}
	}
	for n := int64(1); n <= 4; n++ {
		for d := int64(1); d <= 4; d++ {
			add(fraction(n, d))
		}
	}
	for _, bits := range []int{32, 64, 2048, maxBits - 1, maxBits} {
		for plus := int64(-2); plus <= 1; plus++ {
			add(over(power(bits, plus), big.NewInt(1)))
			add(over(power(bits, plus), big.NewInt(3)))
			add(over(big.NewInt(1), power(bits, plus)))
			add(over(power(bits, plus), power(bits, plus-1)))
		}
	}
	return numbers
}

// drawInt returns a number of at most that many limbs; many of its limbs are at the ends of their range.
func drawInt(source *rand.Rand, limbs int) *big.Int {
	special := []uint32{0, 0, 1, 2, 0x80000000, 0xfffffffe, 0xffffffff}
	n := api.Int{Neg: source.Intn(2) == 0, Mag: make([]uint32, source.Intn(limbs+1))}
	for i := range n.Mag {
		n.Mag[i] = source.Uint32()
		if source.Intn(2) == 0 {
			n.Mag[i] = special[source.Intn(len(special))]
		}
	}
	return toBig(n)
}

// draw returns a number whose terms have at most that many limbs.
func draw(source *rand.Rand, limbs int) *big.Rat {
	den := drawInt(source, limbs)
	if den.Sign() == 0 {
		den.SetInt64(int64(source.Intn(9) + 1))
	}
	return over(drawInt(source, limbs), den)
}

// pairs calls f for pairs of edges and of drawn numbers.
func pairs(f func(x, y *big.Rat)) {
	for _, x := range edges() {
		for _, y := range edges() {
			f(x, y)
		}
	}
	source := rand.New(rand.NewSource(1))
	for _, limbs := range []int{1, 2, 5, api.MaxLimbs / 2, api.MaxLimbs} {
		for range 250 {
			f(draw(source, limbs), draw(source, limbs))
			f(draw(source, limbs), draw(source, 3))
		}
	}
}

// triples calls f for triples of drawn numbers with which several operations do not get too big.
func triples(seed int64, f func(a, b, c api.Rat)) {
	source := rand.New(rand.NewSource(seed))
	for _, limbs := range []int{1, 2, api.MaxLimbs / 8} {
		for range 300 {
			f(fromRat(draw(source, limbs)), fromRat(draw(source, limbs)), fromRat(draw(source, limbs)))
		}
	}
}

// invalid returns rational numbers that are not valid.
func invalid() []api.Rat {
	one, long := integer.Of(1), fromBig(power(maxBits, 0))
	return []api.Rat{
		{},
		{Num: one},
		{Num: integer.Of(-1)},
		{Num: integer.Of(5)},
		{Num: integer.Of(2), Den: integer.Of(4)},
		{Num: integer.Of(-3), Den: integer.Of(3)},
		{Num: integer.Of(0), Den: integer.Of(2)},
		{Num: integer.Of(0), Den: integer.Of(-1)},
		{Num: one, Den: integer.Of(-2)},
		{Num: integer.Of(-1), Den: integer.Of(-1)},
		{Num: fromBig(power(3000, 0)), Den: fromBig(power(100, 0))},
		{Num: long, Den: one},
		{Num: one, Den: long},
		{Num: one, Den: api.Int{Mag: []uint32{0}}},
		{Num: one, Den: api.Int{Mag: []uint32{1, 0}}},
		{Num: one, Den: api.Int{Neg: true}},
		{Num: api.Int{Neg: true}, Den: one},
		{Num: api.Int{Mag: []uint32{0}}, Den: one},
		{Num: api.Int{Mag: []uint32{3, 0}}, Den: one},
		{Num: one, Den: api.Int{Mag: make([]uint32, 1<<20)}},
	}
}
