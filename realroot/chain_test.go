package realroot_test

import (
	"math/rand"
	"slices"
	"testing"

	"straightedge/api"
	"straightedge/rational"
	"straightedge/realroot"
)

func TestChain(t *testing.T) {
	for _, x := range []struct {
		p    []api.Rat
		want [][]api.Rat
	}{
		{ints(-2, 0, 1), [][]api.Rat{ints(-2, 0, 1), ints(0, 2), ints(1)}},
		{ints(7), [][]api.Rat{ints(7)}},
		{coefs("-2/3"), [][]api.Rat{coefs("-2/3")}},
		{ints(5, -3), [][]api.Rat{ints(5, -3), ints(-3)}},
		{ints(1, 0, 1), [][]api.Rat{ints(1, 0, 1), ints(0, 2), ints(-1)}},
		{ints(0, -1, 0, 1), [][]api.Rat{ints(0, -1, 0, 1), ints(-1, 0, 3), ints(0, 1), ints(1)}},
		// It is neither made squarefree nor monic.
		{ints(1, -2, 1), [][]api.Rat{ints(1, -2, 1), ints(-2, 2)}},
		{ints(0, 0, 0, 5), [][]api.Rat{ints(0, 0, 0, 5), ints(0, 0, 15)}},
		{ints(2, 0, -1), [][]api.Rat{ints(2, 0, -1), ints(0, -2), ints(-1)}},
		// Degrees may fall by more than 1.
		{ints(1, 1, 0, 0, 1), [][]api.Rat{ints(1, 1, 0, 0, 1), ints(1, 0, 0, 4), coefs("-4/3", "-1"), ints(1)}},
	} {
		if c, e := realroot.Chain(x.p); e != api.OK || !equalPolys(c, x.want) {
			t.Error("P4.1: Chain of", text(x.p), e, c)
		}
	}
}

func TestCount(t *testing.T) {
	cubic := ints(0, -1, 0, 1)
	for _, x := range []struct {
		p      []api.Rat
		lo, hi string
		want   int
	}{
		{ints(-2, 0, 1), "0", "4", 1},
		{ints(-2, 0, 1), "-4", "4", 2},
		{ints(-2, 0, 1), "-1", "1", 0},
		// The lower end does not count, and the upper one does.
		{cubic, "-1", "1", 2}, {cubic, "-2", "-1", 1}, {cubic, "-1", "0", 1}, {cubic, "-1", "-1/2", 0}, {cubic, "1", "2", 0}, {cubic, "-2", "2", 3},
		// Multiple roots count once, also at the ends.
		{product(ints(-1, 1), ints(-1, 1), ints(-1, 1)), "0", "1", 1},
		{product(ints(-1, 1), ints(-1, 1), ints(-1, 1)), "1", "2", 0},
		{product(ints(-1, 1), ints(-1, 1), ints(-3, 1)), "0", "9", 2},
		{ints(7), "-1", "1", 0},
		{ints(0, -5), "-1/7", "1/7", 1},
		{ints(1, 0, 1), "-100", "100", 0},
	} {
		if n, e := realroot.Count(x.p, rat(x.lo), rat(x.hi)); n != x.want || e != api.OK {
			t.Error("P4.2: Count of", text(x.p), "on", x.lo, x.hi, n, e)
		}
	}
}

// factors is a polynomial that is made of its roots.
type factors struct {
	p     []api.Rat
	roots []api.Rat // the different real ones, ascending
}

// drawFactors returns a polynomial with several rational roots, some of them multiple, and some that are not real.
func drawFactors(source *rand.Rand, bits int) factors {
	f := factors{p: constant(ratio(source.Intn(9)-12, 1+source.Intn(5)))}
	for range 1 + source.Intn(4) {
		r := drawNumber(source, bits)
		for range 1 + source.Intn(2)*source.Intn(3) {
			f.p = product(f.p, linear(r))
		}
		if !slices.ContainsFunc(f.roots, func(x api.Rat) bool { return equal(x, r) }) {
			f.roots = append(f.roots, r)
		}
	}
	slices.SortFunc(f.roots, order)
	for _, p := range [][]api.Rat{ints(1, 0, 1), ints(2, -2, 1)} {
		if source.Intn(3) == 0 {
			f.p = product(f.p, p)
		}
	}
	return f
}

// above returns the number of roots that are greater than x.
func (f factors) above(x api.Rat) int {
	n := 0
	for _, r := range f.roots {
		if order(r, x) > 0 {
			n++
		}
	}
	return n
}

func TestCountsOfKnownRoots(t *testing.T) {
	source := rand.New(rand.NewSource(41))
	for _, bits := range []int{2, 4, 12} {
		for range 60 {
			f := drawFactors(source, bits)
			if n, e := realroot.All(f.p); n != len(f.roots) || e != api.OK {
				t.Fatal("P4.2: All of", text(f.p), n, e)
			}
			ends := append([]api.Rat{drawNumber(source, bits+1), drawNumber(source, bits+1)}, f.roots...)
			for _, lo := range ends {
				for _, hi := range ends {
					n, e := realroot.Count(f.p, lo, hi)
					switch {
					case order(lo, hi) >= 0 && (n != 0 || e != api.ErrArg):
						t.Fatal("P4.2: Count on an empty interval:", n, e)
					case order(lo, hi) < 0 && (n != f.above(lo)-f.above(hi) || e != api.OK):
						t.Fatal("P4.2: Count of", rootText(root(f.p, lo, hi)), n, e)
					}
				}
			}
		}
	}
}

func TestAll(t *testing.T) {
	for _, x := range []struct {
		p    []api.Rat
		want int
	}{
		{ints(3), 0}, {ints(-3), 0}, {ints(1, 0, 1), 0}, {ints(-2, 0, 1), 2}, {ints(2, 0, -1), 2}, {ints(-2, 0, 0, 1), 1}, {ints(1, -2, 1), 1}, {ints(0, 0, 0, 0, 2), 1}, {ints(-1, 0, 0, 0, 0, 1), 1},
		{product(ints(-2, 0, 1), ints(-2, 0, 1), ints(-3, 0, 1), ints(0, 1)), 5},
		{full(api.MaxDegree + 1), 0}, {full(api.MaxDegree), 1},
	} {
		if n, e := realroot.All(x.p); n != x.want || e != api.OK {
			t.Error("P4.2: All of", text(x.p), n, e)
		}
	}
}

func TestIsolate(t *testing.T) {
	for _, x := range []struct {
		p, q []api.Rat
		ends []string
	}{
		{ints(-2, 0, 1), ints(-2, 0, 1), []string{"-4", "0", "0", "4"}},
		{ints(0, -1, 0, 1), ints(0, -1, 0, 1), []string{"-1", "-1", "0", "0", "1", "1"}},
		{ints(1, -2, 1), ints(-1, 1), []string{"-4", "4"}},
		{ints(6, -2), ints(-3, 1), []string{"-8", "8"}},
		{ints(0, 5), ints(0, 1), []string{"-2", "2"}},
		// An exact root at the end of an interval is not found again.
		{ints(0, -4, 1), ints(0, -4, 1), []string{"0", "0", "4", "4"}},
		{ints(0, 4, 1), ints(0, 4, 1), []string{"-4", "-4", "0", "0"}},
		{product(ints(-1, 1), ints(-2, 1)), ints(2, -3, 1), []string{"1", "1", "2", "2"}},
		{product(ints(-1, 3), ints(-1, 2)), coefs("1/6", "-5/6", "1"), []string{"1/4", "3/8", "1/2", "1/2"}},
		// An interval with one root, of which an end is a root, is halved again.
		{product(ints(0, 1), ints(-3, 1), ints(3, 1)), ints(0, -9, 0, 1), []string{"-4", "-2", "0", "0", "2", "4"}},
		{ints(1, 0, 1), nil, nil},
		{ints(-7), nil, nil},
	} {
		l, e := realroot.Isolate(x.p)
		var want []api.Root
		for i := 0; i < len(x.ends); i += 2 {
			want = append(want, between(x.q, x.ends[i], x.ends[i+1]))
		}
		if e != api.OK || !equalRoots(l, want) {
			for _, r := range l {
				t.Log(rootText(r))
			}
			t.Error("P4.3: Isolate of", text(x.p), e)
		}
	}
}

func TestRootsOfKnownFactors(t *testing.T) {
	source := rand.New(rand.NewSource(42))
	for _, bits := range []int{2, 4, 12, 20} {
		for range 40 {
			f := drawFactors(source, bits)
			l := isolate(t, f.p)
			if len(l) != len(f.roots) {
				t.Fatal("P4.3: Isolate of", text(f.p), len(l))
			}
			for i, r := range l {
				lo, hi := order(r.Interval.Lo, f.roots[i]), order(r.Interval.Hi, f.roots[i])
				if lo != -hi || lo > 0 || realroot.Check(r) != api.OK {
					t.Fatal("P4.3: Isolate of", text(f.p), "root", i, rootText(r))
				}
			}
		}
	}
}

func TestErrorsOfPolynomials(t *testing.T) {
	zero, one := ratio(0, 1), ratio(1, 1)
	for i, p := range append(invalidPolys(), nil) {
		_, want := expect(func() int { return wantAll(p) })
		if want == api.OK || len(p) == 0 && want != api.ErrZero || len(p) == api.MaxDegree+2 && rational.Valid(p[len(p)-1]) && rational.Sign(p[len(p)-1]) == 1 && want != api.ErrTooBig {
			t.Fatal("the test expects another error:", i, want)
		}
		if c, e := realroot.Chain(p); len(c) != 0 || e != want {
			t.Error("P4.1: Chain", i, c, e)
		}
		if n, e := realroot.Count(p, zero, one); n != 0 || e != want {
			t.Error("P4.2: Count", i, n, e)
		}
		if n, e := realroot.All(p); n != 0 || e != want {
			t.Error("P4.2: All", i, n, e)
		}
		if l, e := realroot.Isolate(p); len(l) != 0 || e != want {
			t.Error("P4.3: Isolate", i, l, e)
		}
		// The error of the polynomial is the first one, but that it is zero is the last one.
		if len(p) == 0 {
			want = api.ErrArg
		}
		if n, e := realroot.Count(p, one, zero); n != 0 || e != want {
			t.Error("P4.2: Count on an empty interval", i, n, e)
		}
		if n, e := realroot.Count(p, api.Rat{}, one); n != 0 || e != want {
			t.Error("P4.2: Count from no number", i, n, e)
		}
	}
	for _, bad := range invalidNumbers() {
		for _, p := range [][]api.Rat{nil, ints(3), ints(-2, 0, 1)} {
			for _, ends := range [][2]api.Rat{{bad, one}, {zero, bad}, {bad, bad}} {
				if n, e := realroot.Count(p, ends[0], ends[1]); n != 0 || e != api.ErrArg {
					t.Error("P4.2: Count with no number:", n, e)
				}
			}
		}
	}
	for _, ends := range [][2]api.Rat{{zero, zero}, {one, zero}, {one, ratio(-1, 1)}} {
		if n, e := realroot.Count(ints(-2, 0, 1), ends[0], ends[1]); n != 0 || e != api.ErrArg {
			t.Error("P4.2: Count on an empty interval:", n, e)
		}
	}
}
