package realroot_test

import (
	"math/big"
	"math/rand"
	"testing"

	"straightedge/api"
	"straightedge/integer"
	"straightedge/rational"
	"straightedge/realroot"
)

var (
	square = ints(-2, 0, 1)          // the roots of 2
	cubic  = ints(0, -1, 0, 1)       // -1, 0, 1
	both   = ints(6, 0, -5, 0, 1)    // the roots of 2 and of 3
	cube   = ints(-2, 0, 0, 1)       // the cube root of 2
	thirds = coefs("2/9", "-1", "1") // 1/3, 2/3
)

// ranked is a valid root, with a number that orders it.
type ranked struct {
	api.Root
	rank int
}

// roots returns roots of all kinds.
func roots() []ranked {
	return []ranked{
		{between(square, "-4", "0"), 0}, {between(square, "-3/2", "-7/5"), 0}, {between(both, "-3/2", "0"), 0},
		{between(coefs("5/4", "1"), "-5/4", "-5/4"), 1}, {between(coefs("5/4", "1"), "-2", "1"), 1},
		{between(cubic, "-1", "-1"), 2}, {between(cubic, "-100", "-1/2"), 2},
		{between(ints(0, 1), "-1", "1"), 3}, {between(cubic, "0", "0"), 3}, {between(cubic, "-1/2", "1/3"), 3}, {between(ints(0, 1), "0", "0"), 3},
		{between(thirds, "0", "1/2"), 4}, {between(thirds, "1/3", "1/3"), 4}, {between(coefs("-1/3", "1"), "-1/3", "1"), 4},
		{between(cube, "5/4", "63/50"), 5}, {between(cube, "-8", "8"), 5},
		{between(square, "0", "4"), 6}, {between(square, "7/5", "17/12"), 6}, {between(both, "0", "3/2"), 6}, {between(ints(-4, 0, 0, 0, 1), "1", "2"), 6},
		{between(coefs("-3/2", "1"), "3/2", "3/2"), 7},
		{between(both, "3/2", "2"), 8}, {between(ints(-3, 0, 1), "0", "8"), 8}, {between(ints(-3, 0, 1), "17/10", "7/4"), 8},
	}
}

// badRoots returns what is no valid root.
func badRoots() []api.Root {
	l := []api.Root{
		{},
		between(nil, "0", "0"), between(nil, "-1", "1"),
		between(ints(1), "0", "0"), between(ints(1), "-1", "1"), between(ints(7), "-1", "1"),
		// Not squarefree, or not monic.
		between(ints(1, -2, 1), "0", "2"), between(ints(1, -2, 1), "1", "1"), between(ints(-2, 2), "0", "2"), between(ints(-2, 2), "1", "1"), between(ints(2, 0, -1), "0", "2"), between(ints(0, 0, 1), "-1", "1"),
		// The interval is empty, or in the wrong order.
		between(square, "4", "0"), between(square, "1", "1"), between(square, "0", "0"), between(cubic, "1/2", "1/2"),
		// An end is a root.
		between(cubic, "0", "1/2"), between(cubic, "-1/2", "0"), between(cubic, "-1", "1"), between(cubic, "0", "2"), between(cubic, "-2", "0"), between(cubic, "0", "1"),
		// No root, or more than one.
		between(square, "2", "4"), between(square, "-1", "1"), between(square, "-4", "4"), between(cubic, "-2", "2"), between(ints(1, 0, 1), "-1", "1"),
	}
	for _, bad := range invalidNumbers() {
		l = append(l, root(square, bad, ratio(4, 1)), root(square, ratio(0, 1), bad), root(cubic, bad, bad))
	}
	return l
}

func TestCheck(t *testing.T) {
	for _, r := range roots() {
		if e := realroot.Check(r.Root); e != api.OK {
			t.Error("P4.4: Check of", rootText(r.Root), e)
		}
	}
	for i, r := range badRoots() {
		if e := realroot.Check(r); e != api.ErrArg {
			t.Error("P4.4: Check of the bad root", i, rootText(r), e)
		}
	}
	for i, p := range invalidPolys() {
		_, want := expect(func() int { checkPoly(p); return 0 })
		if e := realroot.Check(root(p, ratio(1, 1), ratio(0, 1))); want == api.OK || e != want {
			t.Error("P4.4: Check with the polynomial", i, e, want)
		}
	}
}

// TestErrorsOfRoots checks that each function returns the errors of its arguments, in order, with zero values.
func TestErrorsOfRoots(t *testing.T) {
	good := between(square, "0", "4")
	bad := badRoots()
	for _, p := range invalidPolys() {
		bad = append(bad, root(p, ratio(0, 1), ratio(1, 1)))
	}
	for i, r := range bad {
		want := realroot.Check(r)
		for _, bits := range []int{-1, 0, 1025} {
			if s, e := realroot.Refine(r, bits); e != want || !equalRoot(s, api.Root{}) {
				t.Error("P4.4: Refine of the bad root", i, bits, e)
			}
			if n, e := realroot.Floor(r, bits); e != want || len(n.Mag) != 0 {
				t.Error("P4.7: Floor of the bad root", i, bits, e)
			}
		}
		for _, q := range [][]api.Rat{nil, ints(3), square} {
			if s, e := realroot.SignAt(q, r); e != want || s != 0 {
				t.Error("P4.5: SignAt the bad root", i, s, e)
			}
		}
		for _, p := range [][][]api.Rat{nil, {nil}, {square, ints(1)}} {
			if n, e := realroot.Fibre(p, r); e != want || n != 0 {
				t.Error("P4.8: Fibre at the bad root", i, n, e)
			}
		}
		if n, e := realroot.Cmp(good, r); e != want || n != 0 {
			t.Error("P4.6: Cmp with the bad root", i, n, e)
		}
		for _, other := range []api.Root{good, {}, root(full(api.MaxDegree+2), ratio(0, 1), ratio(1, 1))} {
			if n, e := realroot.Cmp(r, other); e != want || n != 0 {
				t.Error("P4.6: Cmp of the bad root", i, n, e)
			}
		}
	}
	long := full(api.MaxDegree + 2)
	for _, p := range invalidPolys() {
		_, want := expect(func() int { checkPoly(p); return 0 })
		for _, r := range []api.Root{good, {}, root(long, ratio(0, 1), ratio(1, 1))} {
			if s, e := realroot.SignAt(p, r); e != want || s != 0 {
				t.Error("P4.5: SignAt of a bad polynomial:", s, e)
			}
			if n, e := realroot.Fibre([][]api.Rat{nil, square, p, long, {{}}}, r); e != want || n != 0 {
				t.Error("P4.8: Fibre of a bad polynomial:", n, e)
			}
		}
	}
	for _, bits := range []int{-1, 1025, -1 << 63, 1<<63 - 1} {
		for _, r := range []api.Root{good, between(cubic, "0", "0")} {
			if s, e := realroot.Refine(r, bits); e != api.ErrArg || !equalRoot(s, api.Root{}) {
				t.Error("P4.4: Refine with", bits, "bits", e)
			}
			if n, e := realroot.Floor(r, bits); e != api.ErrArg || len(n.Mag) != 0 {
				t.Error("P4.7: Floor with", bits, "bits", e)
			}
		}
	}
}

func TestRefine(t *testing.T) {
	for _, x := range []struct {
		r      api.Root
		bits   int
		lo, hi string
	}{
		{between(square, "0", "4"), 4, "11/8", "23/16"},
		{between(square, "0", "4"), 0, "1", "2"},
		{between(square, "-4", "0"), 0, "-2", "-1"},
		// An interval of this width is not bisected.
		{between(square, "1", "2"), 0, "1", "2"},
		{between(square, "1", "2"), 1, "1", "3/2"},
		{between(square, "0", "3"), 1, "9/8", "3/2"},
		// It becomes exact where it meets the root, and is not refined then.
		{between(cubic, "-1/2", "1/2"), 1024, "0", "0"},
		{between(cubic, "1/2", "2"), 0, "1/2", "5/4"},
		{between(cubic, "1/2", "5/2"), 5, "1", "1"},
		{between(cubic, "1/4", "5/4"), 1, "3/4", "5/4"},
		{between(cubic, "1", "1"), 1024, "1", "1"},
	} {
		s, e := realroot.Refine(x.r, x.bits)
		if e != api.OK || !equalRoot(s, between(x.r.Poly, x.lo, x.hi)) {
			t.Error("P4.4: Refine of", rootText(x.r), x.bits, rootText(s), e)
		}
	}
	for _, r := range roots() {
		for _, bits := range []int{0, 1, 7, 30, 200} {
			s := must[api.Root](t)(realroot.Refine(r.Root, bits))
			width, _ := rational.Sub(s.Interval.Hi, s.Interval.Lo)
			limit, _ := rational.Make(integer.Of(1), must[api.Int](t)(integer.Shift(integer.Of(1), bits)))
			if realroot.Check(s) != api.OK || order(width, limit) > 0 {
				t.Error("P4.4: Refine of", rootText(r.Root), bits, rootText(s))
			}
			if n, e := realroot.Cmp(r.Root, s); n != 0 || e != api.OK {
				t.Error("P4.4: Refine changes the root", rootText(r.Root), bits, rootText(s))
			}
		}
	}
}

func TestSignAt(t *testing.T) {
	root2, third, one := between(square, "0", "4"), between(thirds, "0", "1/2"), between(cubic, "1", "1")
	for _, x := range []struct {
		q    []api.Rat
		r    api.Root
		want int
	}{
		{ints(-1, 1), root2, 1}, {ints(-2, 1), root2, -1}, {ints(2, -1), root2, 1}, {nil, root2, 0}, {ints(5), root2, 1}, {ints(-5), root2, -1}, {square, root2, 0},
		{product(square, square), root2, 0}, {product(square, ints(-5, 3)), root2, 0}, {ints(-4, 0, 0, 0, 1), root2, 0},
		{coefs("-17/12", "1"), root2, -1}, {coefs("-7/5", "1"), root2, 1},
		{ints(-3, 0, 1), root2, -1}, {cube, root2, 1}, {ints(-1, 3), third, 0}, {ints(-1, 2), third, -1}, {ints(-1, 4), third, 1}, {product(ints(-1, 2), ints(-1, 4)), third, -1},
		{nil, one, 0}, {cubic, one, 0}, {square, one, -1}, {ints(3), one, 1}, {ints(1, 1), one, 1},
		// The common divisor has no root in the interval, and the other root of Poly is one of q.
		{ints(-2, 3), third, -1}, {product(ints(-2, 3), ints(-1, 4)), third, -1}, {product(thirds, ints(-5, 7)), third, 0},
		// A root of q at an end of the interval.
		{ints(0, 1), root2, 1}, {ints(-4, 1), root2, -1}, {ints(0, -4, 1), root2, -1},
		// Multiple roots of q.
		{product(ints(-1, 1), ints(-1, 1)), root2, 1}, {product(ints(-1, 1), ints(-1, 1), ints(-2, 1)), root2, -1},
	} {
		if s, e := realroot.SignAt(x.q, x.r); s != x.want || e != api.OK {
			t.Error("P4.5: SignAt of", text(x.q), "at", rootText(x.r), s, e)
		}
	}
}

// TestSignsAtKnownRoots evaluates polynomials at rational roots that are known by an interval only, and at roots of 2.
func TestSignsAtKnownRoots(t *testing.T) {
	source := rand.New(rand.NewSource(43))
	for _, bits := range []int{2, 4, 12} {
		for range 25 {
			f := drawFactors(source, bits)
			for i, r := range isolate(t, f.p) {
				q := drawSome(source, 5, bits)
				if source.Intn(3) == 0 {
					q = product(q, linear(f.roots[source.Intn(len(f.roots))]))
				}
				exact := root(linear(f.roots[i]), f.roots[i], f.roots[i])
				want := must[int](t)(realroot.SignAt(q, exact))
				if s, e := realroot.SignAt(q, r); s != want || e != api.OK {
					t.Fatal("P4.5: SignAt of", text(q), "at", rootText(r), s, e)
				}
			}
			a, b := drawNumber(source, bits), drawNumber(source, bits)
			q := []api.Rat{a, b}
			if rational.Sign(b) == 0 {
				q = constant(a)
			}
			if s, e := realroot.SignAt(q, between(square, "0", "4")); s != signOfSurd(a, b) || e != api.OK {
				t.Fatal("P4.5: SignAt of", text(q), "at the root of 2", s, e)
			}
		}
	}
}

// signOfSurd returns the sign of a + b times the root of 2.
func signOfSurd(a, b api.Rat) int {
	first, second := rational.Sign(a), rational.Sign(b)
	if first*second >= 0 {
		return max(min(first+second, 1), -1)
	}
	left, _ := rational.Mul(a, a)
	right, _ := rational.Mul(b, b)
	right, _ = rational.Add(right, right)
	return first * order(left, right)
}

func TestCmp(t *testing.T) {
	for _, a := range roots() {
		for _, b := range roots() {
			want := max(min(a.rank-b.rank, 1), -1)
			if n, e := realroot.Cmp(a.Root, b.Root); n != want || e != api.OK {
				t.Error("P4.6: Cmp of", rootText(a.Root), "and", rootText(b.Root), n, e)
			}
		}
	}
	// The interval of the other root contains both, on either side of it.
	for _, x := range []struct {
		a, b api.Root
		want int
	}{
		{between(square, "0", "4"), between(ints(-3, 0, 1), "0", "4"), -1},
		{between(ints(-3, 0, 1), "0", "4"), between(square, "0", "4"), 1},
		{between(square, "-4", "0"), between(ints(-3, 0, 1), "-4", "0"), 1},
		{between(ints(-3, 0, 1), "-4", "0"), between(square, "-4", "0"), -1},
		// The roots are equal to an end of the interval of the other one.
		{between(cubic, "0", "0"), between(square, "0", "4"), -1},
		{between(cubic, "0", "0"), between(square, "-4", "0"), 1},
		{between(square, "0", "4"), between(cubic, "0", "0"), 1},
		{between(cubic, "1", "1"), between(square, "1", "2"), -1},
		{between(ints(-2, 1), "0", "8"), between(square, "1", "2"), 1},
		{between(ints(-1, 1), "0", "8"), between(square, "1", "2"), -1},
	} {
		if n, e := realroot.Cmp(x.a, x.b); n != x.want || e != api.OK {
			t.Error("P4.6: Cmp of", rootText(x.a), "and", rootText(x.b), n, e)
		}
	}
}

func TestFloor(t *testing.T) {
	for _, x := range []struct {
		r    api.Root
		bits int
		want int
	}{
		{between(square, "0", "4"), 4, 22}, {between(square, "0", "4"), 0, 1}, {between(square, "-4", "0"), 0, -2}, {between(square, "-4", "0"), 4, -23},
		{between(cubic, "1", "1"), 0, 1}, {between(cubic, "-1", "-1"), 3, -8}, {between(cubic, "0", "0"), 1024, 0},
		{between(thirds, "1/3", "1/3"), 1, 0}, {between(thirds, "1/3", "1/3"), 2, 1}, {between(thirds, "0", "1/2"), 2, 1}, {between(thirds, "1/2", "1"), 3, 5},
		{between(coefs("1/3", "1"), "-1", "0"), 0, -1}, {between(coefs("1/3", "1"), "-1/3", "-1/3"), 1, -1},
		// The integer n / 2^bits lies in the interval, below the root, at it, or above it.
		{between(square, "7/8", "15/8"), 0, 1}, {between(ints(-1, 1), "1/3", "4/3"), 0, 1}, {between(coefs("-9/10", "1"), "1/3", "4/3"), 0, 0}, {between(coefs("-11/10", "1"), "1/3", "4/3"), 0, 1},
		{between(ints(1, 1), "-4/3", "-1/3"), 0, -1}, {between(coefs("11/10", "1"), "-4/3", "-1/3"), 0, -2},
	} {
		if n, e := realroot.Floor(x.r, x.bits); e != api.OK || !equalInt(n, integer.Of(x.want)) {
			t.Error("P4.7: Floor of", rootText(x.r), x.bits, n, e)
		}
	}
	// The floor of the root of n, times 2^bits, is the root of n 4^bits.
	for _, n := range []int{2, 3, 5, 7, 1000003} {
		p := ints(-n, 0, 1)
		l := isolate(t, p)
		for _, bits := range []int{0, 1, 2, 31, 32, 33, 100, 600, 1024} {
			value := new(big.Int).Lsh(big.NewInt(int64(n)), uint(2*bits))
			want := must[api.Int](t)(integer.Parse(value.Sqrt(value).String()))
			if f, e := realroot.Floor(l[1], bits); e != api.OK || !equalInt(f, want) {
				t.Error("P4.7: Floor of the root of", n, bits, e)
			}
			below := must[api.Int](t)(integer.Sub(integer.Of(-1), want))
			if f, e := realroot.Floor(l[0], bits); e != api.OK || !equalInt(f, below) {
				t.Error("P4.7: Floor of the negative root of", n, bits, e)
			}
		}
	}
}
