package unipoly_test

import (
	"slices"
	"testing"

	"straightedge/api"
	"straightedge/unipoly"
)

const mark = 0xabcdef01

// roomy returns a copy of the polynomial with marked spare capacity, of its own and of its numbers.
func roomy(p []api.Rat) []api.Rat {
	roomyInt := func(n api.Int) api.Int {
		room := append(slices.Clone(n.Mag), mark, mark, mark)
		return api.Int{Neg: n.Neg, Mag: room[:len(n.Mag)]}
	}
	var l []api.Rat
	for _, r := range p {
		l = append(l, api.Rat{Num: roomyInt(r.Num), Den: roomyInt(r.Den)})
	}
	spare := api.Rat{Num: api.Int{Neg: true, Mag: []uint32{mark}}}
	return append(l, spare, spare)[:len(l)]
}

// limbs calls f for all limbs of the polynomials, those of their spare capacity too.
func limbs(f func(limb *uint32), polys ...[]api.Rat) {
	for _, p := range polys {
		for _, r := range p[:cap(p)] {
			for _, mag := range [][]uint32{r.Num.Mag, r.Den.Mag} {
				for i := range mag[:cap(mag)] {
					f(&mag[:cap(mag)][i])
				}
			}
		}
	}
}

// untouched reports whether a polynomial, with its spare capacity, is as roomy made it of p.
func untouched(got, p []api.Rat) bool {
	sameInt := func(a, b api.Int) bool {
		room := len(b.Mag) + 3
		return a.Neg == b.Neg && len(a.Mag) == len(b.Mag) && slices.Equal(a.Mag[:room], b.Mag[:room])
	}
	fresh := roomy(p)
	if len(got) != len(fresh) {
		return false
	}
	for i, r := range fresh[:len(p)] {
		if !sameInt(got[i].Num, r.Num) || !sameInt(got[i].Den, r.Den) {
			return false
		}
	}
	for i, r := range fresh[len(p) : len(p)+2] {
		spare := got[:len(p)+2][len(p)+i]
		if spare.Num.Neg != r.Num.Neg || !slices.Equal(spare.Num.Mag, r.Num.Mag) || len(spare.Den.Mag) != 0 {
			return false
		}
	}
	return true
}

func TestMemory(t *testing.T) {
	polys := [][]api.Rat{
		nil, fromList(ints(1)), fromList(ints(-7)), fromList(ints(0, 1)), fromList(coefs("1/2", "0", "-3", "1")), fromList(ints(1, -2, 1)), fromList(ints(5, 0, 0, 0, 0, 9)), fromList(list{wide(2000, 1), one, wide(900, 7)}),
	}
	for _, f := range functions() {
		for _, p := range polys {
			for _, q := range polys {
				a, b := roomy(p), roomy(q)
				got, e := f.call(a, b)
				if unipoly.Text(a); !untouched(a, p) || !untouched(b, q) {
					t.Fatal("W6:", f.name, "modifies an argument:", p, q)
				}
				if e != api.OK {
					continue
				}
				fresh, _ := f.call(p, q)
				limbs(func(limb *uint32) { *limb = ^*limb }, a, b)
				for i := range got {
					if !same(got[i], fresh[i]) {
						t.Fatal("W6:", f.name, "shares memory with an argument:", p, q)
					}
				}
				seen := map[*uint32]bool{}
				limbs(func(limb *uint32) {
					if seen[limb] {
						t.Fatal("W6:", f.name, "has two slices with the same memory:", p, q)
					}
					seen[limb] = true
				}, got...)
			}
		}
	}
}

func TestOwnArgumentTwice(t *testing.T) {
	for _, p := range [][]api.Rat{fromList(ints(4)), fromList(coefs("1/2", "0", "-3", "1"))} {
		a := roomy(p)
		for _, f := range functions() {
			if f.two {
				got, e := f.call(a, a)
				fresh, _ := f.call(p, roomy(p))
				for i := range got {
					if e != api.OK || !same(got[i], fresh[i]) {
						t.Fatal(f.name, "of a polynomial and itself:", got[i], fresh[i], e)
					}
				}
			}
		}
		if !untouched(a, p) {
			t.Fatal("W6: the argument is modified")
		}
	}
}
