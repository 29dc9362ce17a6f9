package unipoly_test

import (
	"math/big"
	"math/rand"
	"testing"

	"straightedge/api"
	"straightedge/rational"
	"straightedge/unipoly"
)

const maxBits = 32 * api.MaxLimbs

// list is a polynomial of the tests: its coefficients, without a limit.
type list []*big.Rat

// fromRat returns the rational number of a number, which is not valid if the number is too big.
func fromRat(x *big.Rat) api.Rat {
	r, _ := rational.Parse(x.RatString())
	return r
}

// toRat returns the number of a valid rational number.
func toRat(t *testing.T, r api.Rat) *big.Rat {
	t.Helper()
	s, e := rational.Text(r)
	x, ok := new(big.Rat).SetString(s)
	if e != api.OK || !ok {
		t.Fatal("a result is no number:", r)
	}
	return x
}

func fromList(l list) []api.Rat {
	var p []api.Rat
	for _, x := range l {
		p = append(p, fromRat(x))
	}
	return p
}

func toList(t *testing.T, p []api.Rat) list {
	t.Helper()
	var l list
	for _, r := range p {
		l = append(l, toRat(t, r))
	}
	return l
}

// coefs returns the polynomial with these coefficients, given by their texts, from that of x^0 on.
func coefs(texts ...string) list {
	var l list
	for _, s := range texts {
		x, ok := new(big.Rat).SetString(s)
		if !ok {
			panic("no number: " + s)
		}
		l = append(l, x)
	}
	return l
}

// ints returns the polynomial with these coefficients, from that of x^0 on.
func ints(numbers ...int64) list {
	var l list
	for _, n := range numbers {
		l = append(l, big.NewRat(n, 1))
	}
	return l
}

// power returns x^n.
func power(n int) list {
	l := make(list, n+1)
	for i := range l {
		l[i] = new(big.Rat)
	}
	l[n].SetInt64(1)
	return l
}

// full returns a polynomial with n coefficients 1.
func full(n int) list {
	l := make(list, n)
	for i := range l {
		l[i] = big.NewRat(1, 1)
	}
	return l
}

// wide returns 2^n + plus.
func wide(n int, plus int64) *big.Rat {
	x := new(big.Int).Lsh(big.NewInt(1), uint(n))
	return new(big.Rat).SetInt(x.Add(x, big.NewInt(plus)))
}

func equal(a, b list) bool {
	if len(a) != len(b) {
		return false
	}
	for i := range a {
		if a[i].Cmp(b[i]) != 0 {
			return false
		}
	}
	return true
}

// checkList checks that a result is the polynomial.
func checkList(t *testing.T, what string, got []api.Rat, e api.Errno, want list) {
	t.Helper()
	if e != api.OK || unipoly.Check(got) != api.OK || !equal(toList(t, got), want) {
		t.Fatalf("%s: error %d with %v, not %v", what, e, got, want)
	}
}

// checkNumber checks that a result is the number.
func checkNumber(t *testing.T, what string, got api.Rat, e api.Errno, want *big.Rat) {
	t.Helper()
	if e != api.OK || !rational.Valid(got) || toRat(t, got).Cmp(want) != 0 {
		t.Fatalf("%s: error %d with %v, not %v", what, e, got, want)
	}
}

// isNothing reports whether r is the zero value, which is no number.
func isNothing(r api.Rat) bool {
	return !r.Num.Neg && !r.Den.Neg && len(r.Num.Mag) == 0 && len(r.Den.Mag) == 0
}

// drawNumber returns a number whose terms have at most that many bits; many are 0, small, or integers.
func drawNumber(source *rand.Rand, bits int) *big.Rat {
	limit := new(big.Int).Lsh(big.NewInt(1), uint(bits))
	num, den := new(big.Int).Rand(source, limit), new(big.Int).Rand(source, limit)
	if source.Intn(2) == 0 {
		num.Neg(num)
	}
	switch {
	case source.Intn(5) == 0:
		num.SetInt64(int64(source.Intn(5) - 2))
		den.SetInt64(1)
	case source.Intn(2) == 0 || den.Sign() == 0:
		den.SetInt64(1)
	}
	return new(big.Rat).SetFrac(num, den)
}

// draw returns a polynomial with at most that many coefficients.
func draw(source *rand.Rand, count, bits int) list {
	l := make(list, source.Intn(count+1))
	for i := range l {
		l[i] = drawNumber(source, bits)
	}
	return trim(l)
}

// drawSome returns a polynomial that is not the zero polynomial.
func drawSome(source *rand.Rand, count, bits int) list {
	for {
		if l := draw(source, count, bits); len(l) > 0 {
			return l
		}
	}
}

func trim(l list) list {
	for len(l) > 0 && l[len(l)-1].Sign() == 0 {
		l = l[:len(l)-1]
	}
	return l
}

// must returns a function that fails the test at an error.
func must(t *testing.T) func(p []api.Rat, e api.Errno) []api.Rat {
	return func(p []api.Rat, e api.Errno) []api.Rat {
		t.Helper()
		if e != api.OK || unipoly.Check(p) != api.OK {
			t.Fatal("error", e, p)
		}
		return p
	}
}

// mustNumber is must for numbers.
func mustNumber(t *testing.T) func(r api.Rat, e api.Errno) api.Rat {
	return func(r api.Rat, e api.Errno) api.Rat {
		t.Helper()
		if e != api.OK || !rational.Valid(r) {
			t.Fatal("error", e, r)
		}
		return r
	}
}

func same(p, q []api.Rat) bool {
	if len(p) != len(q) {
		return false
	}
	for i := range p {
		if !sameNumber(p[i], q[i]) {
			return false
		}
	}
	return true
}

func sameNumber(a, b api.Rat) bool {
	order, e := rational.Cmp(a, b)
	return e == api.OK && order == 0
}
