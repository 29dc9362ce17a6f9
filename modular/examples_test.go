package modular_test

import (
	"math/big"
	"testing"

	"straightedge/api"
	"straightedge/modular"
)

// TestExamples checks the chapter's examples.
func TestExamples(t *testing.T) {
	for n, want := range map[int]bool{2: false, 3: true, 9: false, 2147483647: true} {
		if modular.Prime(n) != want {
			t.Error("Prime of", n, "is not", want)
		}
	}
	for n, want := range map[int]int{-5: 3, 8: 11, 2147483647: 2147483647} {
		got, e := modular.Next(n)
		checkNumber(t, got, e, want, "Next of", n)
	}
	none, e := modular.Next(2147483648)
	checkFailure(t, none == 0, e, api.ErrPrime, "Next of 2147483648")
	got, e := modular.Mod(-1, 7)
	checkNumber(t, got, e, 6, "Mod of -1 and 7")
	got, e = modular.Inv(3, 7)
	checkNumber(t, got, e, 5, "Inv of 3 and 7")
	if root, found, e := modular.Sqrt(2, 7); root != 3 || !found || e != api.OK {
		t.Error("Sqrt of 2 and 7:", root, found, e)
	}
	if root, found, e := modular.Sqrt(3, 7); root != 0 || found || e != api.OK {
		t.Error("Sqrt of 3 and 7:", root, found, e)
	}
	got, e = modular.Rat(fromRat(big.NewRat(1, 2)), 7)
	checkNumber(t, got, e, 4, "Rat of 1/2 and 7")
	checkMatrix(t, [][]int{{1, 2, 3}, {2, 4, 6}}, 7, 1, [][]int{{5, 1, 0}, {4, 0, 1}})
	checkLift(t, 4, 7, nil)
	checkLift(t, 51, 101, big.NewRat(1, 2))
}
