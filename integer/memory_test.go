package integer_test

import (
	"math/big"
	"slices"
	"testing"

	"straightedge/api"
	"straightedge/integer"
)

const mark = 0xabcdef01

// roomy returns an integer with marked spare capacity.
func roomy(x *big.Int) api.Int {
	a := fromBig(x)
	room := append(slices.Clone(a.Mag), mark, mark, mark)
	return api.Int{Neg: a.Neg, Mag: room[:len(a.Mag)]}
}

// spoil writes over all memory of an integer.
func spoil(a api.Int) {
	for i := range a.Mag[:cap(a.Mag)] {
		a.Mag[:cap(a.Mag)][i] = ^mark & 0xffffffff
	}
}

// calls returns the integers that all functions with integers as results return.
func calls(a, b api.Int) []api.Int {
	sum, _ := integer.Add(a, b)
	rest, _ := integer.Sub(a, b)
	product, _ := integer.Mul(a, b)
	quot, mod, _ := integer.DivMod(a, b)
	common, _ := integer.GCD(a, b)
	root, _, _ := integer.Sqrt(a)
	results := []api.Int{sum, rest, product, quot, mod, common, root}
	for _, n := range []int{0, 1, 32, -1, -32, -maxBits} {
		shifted, _ := integer.Shift(a, n)
		results = append(results, shifted)
	}
	return results
}

func TestMemory(t *testing.T) {
	small := []*big.Int{big.NewInt(0), big.NewInt(1), big.NewInt(-1), big.NewInt(7), big.NewInt(-6), power(64, 0), power(100, 3), power(200, -1), power(maxBits-40, 5)}
	for _, x := range small {
		for _, y := range small {
			a, b := roomy(x), roomy(y)
			results := calls(a, b)
			integer.Cmp(a, b)
			integer.Bits(a)
			integer.Small(a)
			integer.Text(a)
			if !slices.Equal(a.Mag[:cap(a.Mag)], roomy(x).Mag[:cap(a.Mag)]) || !slices.Equal(b.Mag[:cap(b.Mag)], roomy(y).Mag[:cap(b.Mag)]) {
				t.Fatal("W6: an argument is modified:", x, y)
			}
			spoil(a)
			spoil(b)
			fresh := calls(roomy(x), roomy(y))
			for i := range results {
				if !same(results[i], fresh[i]) {
					t.Fatal("W6: result", i, "shares memory:", x, y)
				}
				spoil(results[i])
			}
		}
	}
}

func TestOwnArgumentTwice(t *testing.T) {
	for _, x := range edges() {
		a := fromBig(x)
		if got, e := integer.Sub(a, a); e != api.OK || !isZeroValue(got) {
			t.Fatal("P1.2: a - a:", x, e)
		}
		got, e := integer.GCD(a, a)
		checkInt(t, "P1.3: GCD(a, a)", got, e, new(big.Int).Abs(x))
		if !same(a, fromBig(x)) {
			t.Fatal("W6: the argument is modified:", x)
		}
	}
}
