package tower_test

import (
	"slices"
	"testing"

	"straightedge/api"
	"straightedge/integer"
	"straightedge/tower"
)

const mark = 0xabcdef01

// roomyInt returns a copy with marked spare capacity.
func roomyInt(n api.Int) api.Int {
	room := append(slices.Clone(n.Mag), mark, mark, mark)
	return api.Int{Neg: n.Neg, Mag: room[:len(n.Mag)]}
}

// roomy returns a copy of an element with marked spare capacity, of its own and of its numbers.
func roomy(x []api.Rat) []api.Rat {
	var l []api.Rat
	for _, r := range x {
		l = append(l, api.Rat{Num: roomyInt(r.Num), Den: roomyInt(r.Den)})
	}
	spare := api.Rat{Num: api.Int{Neg: true, Mag: []uint32{mark}}}
	return append(l, spare, spare)[:len(l)]
}

func roomyTower(t api.Tower) api.Tower {
	var l [][]api.Rat
	for _, r := range t.Radicands {
		l = append(l, roomy(r))
	}
	return api.Tower{Radicands: append(l, []api.Rat{{Num: api.Int{Mag: []uint32{mark}}}})[:len(l)]}
}

// elementsOf returns the radicands, and what lies beyond them in memory.
func elementsOf(t api.Tower) [][]api.Rat { return t.Radicands[:cap(t.Radicands)] }

// limbs calls f for all limbs of the elements, those of their spare capacity too.
func limbs(f func(limb *uint32), elements ...[]api.Rat) {
	for _, x := range elements {
		for _, r := range x[:cap(x)] {
			for _, mag := range [][]uint32{r.Num.Mag, r.Den.Mag} {
				for i := range mag[:cap(mag)] {
					f(&mag[:cap(mag)][i])
				}
			}
		}
	}
}

// contents returns all limbs of the elements.
func contents(elements ...[]api.Rat) []uint32 {
	var l []uint32
	limbs(func(limb *uint32) { l = append(l, *limb) }, elements...)
	return l
}

// checkMemory checks that a call with the arguments changes none of them, and returns new memory, of which no two slices are the same.
func checkMemory(t *testing.T, what string, call func() [][]api.Rat, args ...[]api.Rat) {
	t.Helper()
	before := contents(args...)
	got := call()
	if !slices.Equal(contents(args...), before) {
		t.Fatal("W6:", what, "modifies an argument")
	}
	result := contents(got...)
	limbs(func(limb *uint32) { *limb = ^*limb }, args...)
	if !slices.Equal(contents(got...), result) {
		t.Fatal("W6:", what, "shares memory with an argument")
	}
	limbs(func(limb *uint32) { *limb = ^*limb }, args...)
	seen := map[*uint32]bool{}
	limbs(func(limb *uint32) {
		if seen[limb] {
			t.Fatal("W6:", what, "has two slices with the same memory")
		}
		seen[limb] = true
	}, got...)
	elements := map[*api.Rat]bool{}
	for _, x := range append(slices.Clone(args), got...) {
		for i := range x[:cap(x)] {
			if elements[&x[:cap(x)][i]] {
				t.Fatal("W6:", what, "has two elements with the same memory")
			}
			elements[&x[:cap(x)][i]] = true
		}
	}
	// The same call once more returns the same: nothing was retained.
	limbs(func(limb *uint32) { *limb = ^*limb }, got...)
	if again := call(); !slices.Equal(contents(again...), result) {
		t.Fatal("W2:", what, "returns something else")
	}
}

func TestMemory(t *testing.T) {
	five := read("2", "3", "5", "7", "11")
	for _, c := range []struct {
		tower api.Tower
		x, y  string
	}{
		{api.Tower{}, "3/4", "-2"}, {api.Tower{}, "0", "9/4"}, {nested(), "1 2", "3"}, {nested(), "0 0 1 0", "0 1"}, {nested(), "0 0 0 0", "1 2 3 4 5 6 7 8"},
		{nested(), "1 2 3 4", "5 6 7 8"}, {nested(), "4 0", "0 0 0 0 1 0 0 0"}, {nested(), "0 5", "5 0"}, {squares(), "2 1", "2 -1"}, {squares(), "2 1 0 0", "0"},
		{squares(), "-1 -2 0 0 1 0 0 0", "1 1 1 0"}, {squares(), "1 1", "1 1"}, {five, "9 0", "0 0 1 0"}, {five, "0", "0 0 0 2 0 0 0 0"},
	} {
		u, x, y := roomyTower(c.tower), roomy(element(c.x)), roomy(element(c.y))
		args := append(slices.Clone(elementsOf(u)), x, y)
		for what, f := range map[string]func(t api.Tower, x, y []api.Rat) ([]api.Rat, api.Errno){"Add": tower.Add, "Sub": tower.Sub, "Mul": tower.Mul} {
			for _, pair := range [][2][]api.Rat{{x, y}, {y, x}, {x, x}} {
				checkMemory(t, what, func() [][]api.Rat {
					z, _ := f(u, pair[0], pair[1])
					return [][]api.Rat{z}
				}, args...)
			}
		}
		for _, z := range [][]api.Rat{x, y} {
			checkMemory(t, "Inv", func() [][]api.Rat {
				reciprocal, _ := tower.Inv(u, z)
				return [][]api.Rat{reciprocal}
			}, args...)
			checkMemory(t, "Sqrt", func() [][]api.Rat {
				longer, r, _ := tower.Sqrt(u, z)
				return append(slices.Clone(elementsOf(longer)), r)
			}, args...)
			for _, bits := range []int{0, 5} {
				checkMemory(t, "Floor", func() [][]api.Rat {
					n, _ := tower.Floor(u, z, bits)
					return [][]api.Rat{{{Num: n, Den: integer.Of(1)}}}
				}, args...)
			}
		}
		checkMemory(t, "Check, Valid, Sign and Cmp", func() [][]api.Rat {
			tower.Check(u)
			tower.Valid(u, x)
			tower.Sign(u, x)
			tower.Cmp(u, x, y)
			return nil
		}, args...)
	}
}

// TestMemoryOfLists checks the lists of radicands, of the argument and of the result.
func TestMemoryOfLists(t *testing.T) {
	for _, s := range []string{"9/4", "3", "0 0", "1 1"} {
		u := roomyTower(read("2", "3"))
		longer, _, e := tower.Sqrt(u, element(s))
		if len(elementsOf(u)[2]) != 1 || !equalTower(u, read("2", "3")) {
			t.Error("W6: Sqrt of", s, "modifies the tower")
		}
		want := towerText(longer)
		for i := range elementsOf(u) {
			elementsOf(u)[i] = nil
		}
		if e != api.OK || towerText(longer) != want {
			t.Error("W6: Sqrt of", s, "shares memory with the tower")
		}
	}
}

// TestOwnMemory passes the same memory as several arguments.
func TestOwnMemory(t *testing.T) {
	x := roomy(ints(2, 1))
	u := api.Tower{Radicands: [][]api.Rat{x[:1], x, x[:1], x}}
	if e := tower.Check(u); e != api.OK {
		t.Error("P5.1: Check:", e)
	}
	if y, e := tower.Mul(u, x, x); e != api.OK || !equal(y, ints(6, 4)) {
		t.Error("P5.3: Mul:", text(y), e)
	}
	if y, e := tower.Add(u, x[:1], x); e != api.OK || !equal(y, ints(4, 1)) || !equal(x, ints(2, 1)) {
		t.Error("P5.2: Add:", text(y), text(x), e)
	}
	if y, e := tower.Inv(u, x); e != api.OK || !equal(y, element("1 -1/2")) {
		t.Error("P5.5: Inv:", text(y), e)
	}
	if r, e := sqrt(u, x); e != api.OK || !equalTower(r.tower, roots(ints(2), ints(2, 1), ints(2), ints(2, 1), ints(2, 1))) || !equal(r.x, single(5, 16)) {
		t.Error("P5.6: Sqrt:", towerText(r.tower), text(r.x), e)
	}
}
