package rational_test

import (
	"math/big"
	"slices"
	"testing"

	"straightedge/api"
	"straightedge/rational"
)

const mark = 0xabcdef01

// roomy returns an integer with marked spare capacity.
func roomy(x *big.Int) api.Int {
	n := fromBig(x)
	room := append(slices.Clone(n.Mag), mark, mark, mark)
	return api.Int{Neg: n.Neg, Mag: room[:len(n.Mag)]}
}

// roomyRat returns a rational number with marked spare capacity.
func roomyRat(x *big.Rat) api.Rat {
	return api.Rat{Num: roomy(x.Num()), Den: roomy(x.Denom())}
}

// spoil writes over all memory of an integer.
func spoil(n api.Int) {
	whole := n.Mag[:cap(n.Mag)]
	for i := range whole {
		whole[i] = ^mark & 0xffffffff
	}
}

// untouched reports whether an integer, with its spare capacity, is as roomy made it.
func untouched(n api.Int, x *big.Int) bool {
	fresh := roomy(x)
	return n.Neg == fresh.Neg && slices.Equal(n.Mag[:len(n.Mag)+3], fresh.Mag[:len(fresh.Mag)+3])
}

// results returns the integers of all results that have integers, in pairs of numerator and denominator.
func results(a, b api.Rat) []api.Int {
	var found []api.Int
	keep := func(r api.Rat, _ api.Errno) { found = append(found, r.Num, r.Den) }
	keep(rational.Make(a.Num, a.Den))
	keep(rational.Make(a.Num, b.Den))
	keep(rational.Make(b.Den, a.Num))
	keep(rational.Add(a, b))
	keep(rational.Sub(a, b))
	keep(rational.Mul(a, b))
	keep(rational.Div(a, b))
	keep(rational.Simplest(a, b))
	root, _, e := rational.Sqrt(a)
	keep(root, e)
	for _, bits := range []int{0, 3, -1, -9000} {
		whole, _ := rational.Floor(a, bits)
		found = append(found, whole)
	}
	return found
}

func TestMemory(t *testing.T) {
	numbers := []*big.Rat{fraction(0, 1), fraction(1, 1), fraction(-1, 1), fraction(9, 4), fraction(-7, 3), fraction(5, 1), over(power(100, 0), power(90, 1)), over(power(2000, -1), big.NewInt(1))}
	for _, x := range numbers {
		for _, y := range numbers {
			a, b := roomyRat(x), roomyRat(y)
			found := results(a, b)
			rational.Valid(a)
			rational.Cmp(a, b)
			rational.Sign(a)
			rational.Text(a)
			if !untouched(a.Num, x.Num()) || !untouched(a.Den, x.Denom()) || !untouched(b.Num, y.Num()) || !untouched(b.Den, y.Denom()) {
				t.Fatal("W6: an argument is modified:", x, y)
			}
			for _, n := range []api.Int{a.Num, a.Den, b.Num, b.Den} {
				spoil(n)
			}
			fresh := results(roomyRat(x), roomyRat(y))
			for i := range found {
				if !sameInt(found[i], fresh[i]) {
					t.Fatal("W6: result", i, "shares memory:", x, y)
				}
				spoil(found[i])
			}
		}
	}
}

func TestOwnArgumentTwice(t *testing.T) {
	for _, x := range []*big.Rat{fraction(-7, 3), fraction(1, 1), over(power(900, 1), power(700, 0))} {
		a := roomyRat(x)
		got, e := rational.Sub(a, a)
		checkRat(t, "P2.2: a - a", got, e, fraction(0, 1), x)
		got, e = rational.Div(a, a)
		checkRat(t, "P2.2: a / a", got, e, fraction(1, 1), x)
		got, e = rational.Make(a.Num, a.Num)
		checkRat(t, "P2.1: n / n", got, e, fraction(1, 1), x)
		if !untouched(a.Num, x.Num()) || !untouched(a.Den, x.Denom()) {
			t.Fatal("W6: the argument is modified:", x)
		}
	}
}
