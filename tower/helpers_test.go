package tower_test

import (
	"math/big"
	"math/rand"
	"slices"
	"strings"
	"testing"

	"straightedge/api"
	"straightedge/integer"
	"straightedge/rational"
	"straightedge/tower"
)

const limbBits = 32 * api.MaxLimbs

// fromRat returns the rational number of a number.
func fromRat(x *big.Rat) api.Rat {
	r, e := rational.Parse(x.RatString())
	if e != api.OK {
		panic("no number: " + x.RatString())
	}
	return r
}

func toRat(r api.Rat) *big.Rat {
	x, ok := new(big.Rat).SetString(numberText(r))
	if !ok {
		panic("no number: " + numberText(r))
	}
	return x
}

// ratio returns n / d.
func ratio(n, d int) api.Rat {
	r, _ := rational.Of(n, d)
	return r
}

// wide returns 2^n + plus.
func wide(n int, plus int64) *big.Rat {
	x := new(big.Int).Lsh(big.NewInt(1), uint(n))
	return new(big.Rat).SetInt(x.Add(x, big.NewInt(plus)))
}

func minus(x *big.Rat) *big.Rat { return new(big.Rat).Neg(x) }

func inverse(x *big.Rat) *big.Rat { return new(big.Rat).Inv(x) }

// numbers returns an element of its numbers.
func numbers(l ...*big.Rat) []api.Rat {
	var x []api.Rat
	for _, n := range l {
		x = append(x, fromRat(n))
	}
	return x
}

// ints is numbers for small integers.
func ints(l ...int) []api.Rat {
	var x []api.Rat
	for _, n := range l {
		x = append(x, ratio(n, 1))
	}
	return x
}

// element is numbers for texts that are separated by blanks.
func element(s string) []api.Rat {
	var x []api.Rat
	for _, word := range strings.Fields(s) {
		n, ok := new(big.Rat).SetString(word)
		if !ok {
			panic("no number: " + word)
		}
		x = append(x, fromRat(n))
	}
	return x
}

// single returns the element of a level whose numbers are 0, but for that at an index, which is 1.
func single(levels, index int) []api.Rat {
	x := slices.Repeat(ints(0), 1<<levels)
	x[index] = ratio(1, 1)
	return x
}

// roots returns the tower of the radicands.
func roots(radicands ...[]api.Rat) api.Tower { return api.Tower{Radicands: radicands} }

// read is roots for texts of elements.
func read(texts ...string) api.Tower {
	var t api.Tower
	for _, s := range texts {
		t.Radicands = append(t.Radicands, element(s))
	}
	return t
}

func numberText(r api.Rat) string {
	s, e := rational.Text(r)
	if e != api.OK {
		return "(no number)"
	}
	return s
}

// text returns an element for a message.
func text(x []api.Rat) string {
	var l []string
	for _, r := range x {
		l = append(l, numberText(r))
	}
	return "(" + strings.Join(l, " ") + ")"
}

func towerText(t api.Tower) string {
	var l []string
	for _, r := range t.Radicands {
		l = append(l, text(r))
	}
	return "[" + strings.Join(l, " ") + "]"
}

func equalInt(a, b api.Int) bool { return a.Neg == b.Neg && slices.Equal(a.Mag, b.Mag) }

func equalNumber(a, b int) bool { return a == b }

func equalRat(a, b api.Rat) bool { return equalInt(a.Num, b.Num) && equalInt(a.Den, b.Den) }

func equal(x, y []api.Rat) bool { return slices.EqualFunc(x, y, equalRat) }

func equalTower(t, u api.Tower) bool { return slices.EqualFunc(t.Radicands, u.Radicands, equal) }

// root is what Sqrt returns.
type root struct {
	tower api.Tower
	x     []api.Rat
}

func equalRoot(a, b root) bool { return equalTower(a.tower, b.tower) && equal(a.x, b.x) }

func sqrt(t api.Tower, x []api.Rat) (root, api.Errno) {
	longer, y, e := tower.Sqrt(t, x)
	return root{longer, y}, e
}

// must returns a function that fails the test at an error.
func must[T any](t *testing.T) func(v T, e api.Errno) T {
	return func(v T, e api.Errno) T {
		t.Helper()
		if e != api.OK {
			t.Fatal("error", e)
		}
		return v
	}
}

// invalidNumbers returns rational numbers that are not valid.
func invalidNumbers() []api.Rat {
	one, two := integer.Of(1), integer.Of(2)
	long := api.Int{Mag: make([]uint32, api.MaxLimbs+1)}
	long.Mag[api.MaxLimbs] = 1
	return []api.Rat{
		{},
		{Num: one},
		{Num: two, Den: two},
		{Num: integer.Of(0), Den: two},
		{Num: one, Den: integer.Of(-2)},
		{Num: long, Den: one},
		{Num: api.Int{Neg: true}, Den: one},
		{Num: api.Int{Mag: []uint32{1, 0}}, Den: one},
	}
}

// drawNumber returns a number whose terms have at most that many bits; many are small, or integers.
func drawNumber(source *rand.Rand, bits int) api.Rat {
	limit := new(big.Int).Lsh(big.NewInt(1), uint(bits))
	num, den := new(big.Int).Rand(source, limit), new(big.Int).Rand(source, limit)
	if source.Intn(2) == 0 {
		num.Neg(num)
	}
	switch {
	case source.Intn(4) == 0:
		return ratio(source.Intn(5)-2, 1)
	case source.Intn(2) == 0 || den.Sign() == 0:
		den.SetInt64(1)
	}
	return fromRat(new(big.Rat).SetFrac(num, den))
}

// draw returns an element of a level up to the greatest one; many have zeros at the end.
func draw(source *rand.Rand, greatest, bits int) []api.Rat {
	x := make([]api.Rat, 1<<source.Intn(greatest+1))
	filled := len(x) - source.Intn(2)*source.Intn(len(x))
	for i := range x {
		x[i] = ratio(0, 1)
		if i < filled {
			x[i] = drawNumber(source, bits)
		}
	}
	return x
}

// drawShaped returns a well-shaped tower, most of which are not valid.
func drawShaped(source *rand.Rand, levels, bits int) api.Tower {
	var t api.Tower
	for i := range levels {
		t.Radicands = append(t.Radicands, draw(source, i, bits))
	}
	return t
}

// drawTower returns a valid tower.
func drawTower(source *rand.Rand, levels, bits int) api.Tower {
	var t api.Tower
	for len(t.Radicands) < levels {
		x := draw(source, len(t.Radicands), bits)
		if sign, e := tower.Sign(t, x); e == api.OK && sign == 1 {
			t.Radicands = append(t.Radicands, x)
		}
	}
	return t
}
