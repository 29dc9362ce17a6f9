package integer_test

import (
	"math/big"
	"math/rand"
	"slices"
	"testing"

	"straightedge/api"
	"straightedge/integer"
)

const maxBits = 32 * api.MaxLimbs

// toBig returns the number that a is to stand for.
func toBig(a api.Int) *big.Int {
	n := new(big.Int)
	for i := len(a.Mag) - 1; i >= 0; i-- {
		n.Lsh(n, 32)
		n.Or(n, big.NewInt(int64(a.Mag[i])))
	}
	if a.Neg {
		n.Neg(n)
	}
	return n
}

// fromBig returns the integer of a number, which is not valid if the number is too big.
func fromBig(n *big.Int) api.Int {
	a := api.Int{Neg: n.Sign() < 0}
	limb := new(big.Int)
	for rest := new(big.Int).Abs(n); rest.Sign() > 0; rest.Rsh(rest, 32) {
		a.Mag = append(a.Mag, uint32(limb.And(rest, big.NewInt(0xffffffff)).Uint64()))
	}
	return a
}

// power returns 2^n + plus.
func power(n int, plus int64) *big.Int {
	p := new(big.Int).Lsh(big.NewInt(1), uint(n))
	return p.Add(p, big.NewInt(plus))
}

// number reads a decimal number.
func number(t *testing.T, s string) *big.Int {
	t.Helper()
	n, ok := new(big.Int).SetString(s, 10)
	if !ok {
		t.Fatalf("%q is no number", s)
	}
	return n
}

func same(a, b api.Int) bool {
	return a.Neg == b.Neg && slices.Equal(a.Mag, b.Mag)
}

func isZeroValue(a api.Int) bool {
	return !a.Neg && len(a.Mag) == 0
}

// checkInt checks that a result is the number, or ErrTooBig and a zero value if the number is too big. It names the arguments only at a failure, because printing them takes long.
func checkInt(t *testing.T, what string, got api.Int, e api.Errno, want *big.Int, args ...*big.Int) {
	t.Helper()
	if want.BitLen() > maxBits {
		if e != api.ErrTooBig || !isZeroValue(got) {
			t.Fatalf("%s %v: error %d with %v, not ErrTooBig", what, args, e, toBig(got))
		}
		return
	}
	if e != api.OK || !integer.Valid(got) || !same(got, fromBig(want)) {
		t.Fatalf("%s %v: error %d with %v, not %v", what, args, e, toBig(got), want)
	}
}

// edges are numbers at the ends of limbs, words and the limit.
func edges() []*big.Int {
	numbers := []*big.Int{big.NewInt(0)}
	for _, bits := range []int{0, 1, 2, 31, 32, 33, 62, 63, 64, 65, 95, 96, 127, 128, 2016, 2047, 2048, 2049, maxBits - 32, maxBits - 1, maxBits} {
		for plus := int64(-2); plus <= 2; plus++ {
			if n := power(bits, plus); n.BitLen() <= maxBits {
				numbers = append(numbers, n, new(big.Int).Neg(n))
			}
		}
	}
	return numbers
}

// draw returns a number of at most that many limbs; many of its limbs are at the ends of their range, where carries and estimated digits go wrong.
func draw(source *rand.Rand, limbs int) *big.Int {
	special := []uint32{0, 0, 1, 2, 0x7fffffff, 0x80000000, 0x80000001, 0xfffffffe, 0xffffffff, 0xffffffff}
	a := api.Int{Neg: source.Intn(2) == 0, Mag: make([]uint32, source.Intn(limbs+1))}
	for i := range a.Mag {
		a.Mag[i] = source.Uint32()
		if source.Intn(2) == 0 {
			a.Mag[i] = special[source.Intn(len(special))]
		}
	}
	return toBig(a)
}

// pairs calls f for pairs of edges and of drawn numbers.
func pairs(f func(x, y *big.Int)) {
	for _, x := range edges() {
		for _, y := range edges() {
			f(x, y)
		}
	}
	source := rand.New(rand.NewSource(1))
	for _, limbs := range []int{1, 2, 3, 4, 8, api.MaxLimbs / 2, api.MaxLimbs} {
		for range 700 {
			f(draw(source, limbs), draw(source, limbs))
			f(draw(source, limbs), draw(source, 4))
		}
	}
}

// invalid returns integers that are not valid.
func invalid() []api.Int {
	long := make([]uint32, api.MaxLimbs+1)
	long[api.MaxLimbs] = 1
	return []api.Int{
		{Neg: true},
		{Neg: true, Mag: []uint32{}},
		{Mag: []uint32{0}},
		{Neg: true, Mag: []uint32{0}},
		{Mag: []uint32{1, 0}},
		{Mag: make([]uint32, api.MaxLimbs)},
		{Mag: make([]uint32, api.MaxLimbs+1)},
		{Mag: long},
		{Neg: true, Mag: long},
	}
}
