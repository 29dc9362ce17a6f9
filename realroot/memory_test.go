package realroot_test

import (
	"slices"
	"testing"

	"straightedge/api"
	"straightedge/integer"
	"straightedge/rational"
	"straightedge/realroot"
)

const mark = 0xabcdef01

// roomyInt returns a copy with marked spare capacity.
func roomyInt(n api.Int) api.Int {
	room := append(slices.Clone(n.Mag), mark, mark, mark)
	return api.Int{Neg: n.Neg, Mag: room[:len(n.Mag)]}
}

func roomyRat(r api.Rat) api.Rat { return api.Rat{Num: roomyInt(r.Num), Den: roomyInt(r.Den)} }

// roomy returns a copy of the polynomial with marked spare capacity, of its own and of its numbers.
func roomy(p []api.Rat) []api.Rat {
	var l []api.Rat
	for _, r := range p {
		l = append(l, roomyRat(r))
	}
	spare := api.Rat{Num: api.Int{Neg: true, Mag: []uint32{mark}}}
	return append(l, spare, spare)[:len(l)]
}

func roomyRoot(r api.Root) api.Root {
	return root(roomy(r.Poly), roomyRat(r.Interval.Lo), roomyRat(r.Interval.Hi))
}

// polysOf returns all that a root consists of as polynomials.
func polysOf(r api.Root) [][]api.Rat {
	return [][]api.Rat{r.Poly, {r.Interval.Lo, r.Interval.Hi}}
}

// limbs calls f for all limbs of the polynomials, those of their spare capacity too.
func limbs(f func(limb *uint32), polys ...[]api.Rat) {
	for _, p := range polys {
		for _, r := range p[:cap(p)] {
			for _, mag := range [][]uint32{r.Num.Mag, r.Den.Mag} {
				for i := range mag[:cap(mag)] {
					f(&mag[:cap(mag)][i])
				}
			}
		}
	}
}

// contents returns all limbs of the polynomials.
func contents(polys ...[]api.Rat) []uint32 {
	var l []uint32
	limbs(func(limb *uint32) { l = append(l, *limb) }, polys...)
	return l
}

// checkMemory checks that a call with the arguments changes none of them, and returns new memory, of which no two slices are the same.
func checkMemory(t *testing.T, what string, call func() [][]api.Rat, args ...[]api.Rat) {
	t.Helper()
	before := contents(args...)
	got := call()
	if !slices.Equal(contents(args...), before) {
		t.Fatal("W6:", what, "modifies an argument")
	}
	result := contents(got...)
	limbs(func(limb *uint32) { *limb = ^*limb }, args...)
	if !slices.Equal(contents(got...), result) {
		t.Fatal("W6:", what, "shares memory with an argument")
	}
	limbs(func(limb *uint32) { *limb = ^*limb }, args...)
	seen := map[*uint32]bool{}
	limbs(func(limb *uint32) {
		if seen[limb] {
			t.Fatal("W6:", what, "has two slices with the same memory")
		}
		seen[limb] = true
	}, got...)
	elements := map[*api.Rat]bool{}
	for _, p := range got {
		for i := range p[:cap(p)] {
			if elements[&p[:cap(p)][i]] {
				t.Fatal("W6:", what, "has two polynomials with the same memory")
			}
			elements[&p[:cap(p)][i]] = true
		}
	}
	// The same call once more returns the same: nothing was retained.
	if !equalPolys(call(), got) {
		t.Fatal("W2:", what, "returns something else")
	}
}

func TestMemoryOfPolynomials(t *testing.T) {
	for _, p := range [][]api.Rat{ints(3), ints(-7, 2), square, cubic, thirds, both, ints(1, -2, 1), product(cubic, cubic), ints(1, 0, 1), numbers(wide(900, 1), wide(0, 2), wide(0, 0))} {
		a, lo, hi := roomy(p), roomyRat(ratio(-1, 3)), roomyRat(ratio(7, 5))
		checkMemory(t, "Chain", func() [][]api.Rat {
			c, _ := realroot.Chain(a)
			return c
		}, a)
		checkMemory(t, "Isolate", func() [][]api.Rat {
			var l [][]api.Rat
			roots, _ := realroot.Isolate(a)
			for _, r := range roots {
				l = append(l, polysOf(r)...)
			}
			return l
		}, a)
		checkMemory(t, "Count", func() [][]api.Rat {
			realroot.Count(a, lo, hi)
			realroot.All(a)
			return nil
		}, a, []api.Rat{lo, hi})
	}
}

func TestMemoryOfRoots(t *testing.T) {
	for _, x := range roots() {
		r, s, q := roomyRoot(x.Root), roomyRoot(between(both, "0", "3/2")), roomy(cubic)
		args := append(append(polysOf(r), polysOf(s)...), q)
		for _, bits := range []int{0, 3, 40} {
			checkMemory(t, "Refine", func() [][]api.Rat {
				refined, _ := realroot.Refine(r, bits)
				return polysOf(refined)
			}, args...)
			checkMemory(t, "Floor", func() [][]api.Rat {
				n, _ := realroot.Floor(r, bits)
				return [][]api.Rat{{{Num: n, Den: integer.Of(1)}}}
			}, args...)
		}
		checkMemory(t, "SignAt, Cmp and Check", func() [][]api.Rat {
			realroot.SignAt(q, r)
			realroot.Cmp(r, s)
			realroot.Check(r)
			return nil
		}, args...)
		p := [][]api.Rat{q, nil, roomy(square), roomy(product(square, x.Poly)), roomy(ints(1, 1)), q, {{}}}[:6]
		checkMemory(t, "Fibre", func() [][]api.Rat {
			realroot.Fibre(p, r)
			return nil
		}, append(args, p...)...)
		if !equalPolys(p[3:4], [][]api.Rat{product(square, x.Poly)}) || len(p[:7][6]) != 1 {
			t.Fatal("W6: Fibre modifies its list")
		}
	}
}

// TestOwnMemory passes the same memory as several arguments.
func TestOwnMemory(t *testing.T) {
	r := roomyRoot(between(square, "0", "4"))
	r.Poly[1].Den = r.Poly[2].Num
	if n, e := realroot.Cmp(r, r); n != 0 || e != api.OK {
		t.Error("P4.6: Cmp of a root and itself:", n, e)
	}
	if s, e := realroot.SignAt(r.Poly, r); s != 0 || e != api.OK {
		t.Error("P4.5: SignAt of Poly:", s, e)
	}
	if n, e := realroot.Fibre([][]api.Rat{r.Poly, r.Poly, r.Poly[:1:1], r.Poly}, r); n != 1 || e != api.OK {
		t.Error("P4.8: Fibre of Poly:", n, e)
	}
	zero := roomyRat(ratio(0, 1))
	exact := root(append([]api.Rat{zero}, ints(-1, 0, 1)...), zero, zero)
	refined, e := realroot.Refine(exact, 5)
	if e != api.OK || !equalRoot(refined, exact) || rational.Sign(refined.Interval.Lo) != 0 {
		t.Error("P4.4: Refine of an exact root:", rootText(refined), e)
	}
}
