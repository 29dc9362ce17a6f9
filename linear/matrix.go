package linear

import (
	"slices"

	"straightedge/api"
	"straightedge/rational"
)

// fits reports whether a list has no more rows, and its rows no more elements, than a matrix may have.
func fits(m [][]api.Rat) bool {
	for _, row := range m {
		if len(row) > api.MaxSide {
			return false
		}
	}
	return len(m) <= api.MaxSide
}

// isMatrix reports whether all rows have the same number of elements, which are valid.
func isMatrix(m [][]api.Rat) bool {
	for _, row := range m {
		if len(row) != len(m[0]) || !allValid(row) {
			return false
		}
	}
	return true
}

func allValid(numbers []api.Rat) bool {
	for _, r := range numbers {
		if !rational.Valid(r) {
			return false
		}
	}
	return true
}

// isSymmetric reports whether a matrix is square and equal to its transpose.
func isSymmetric(m [][]api.Rat) bool {
	if len(m) != countColumns(m) {
		return false
	}
	for i, row := range m {
		for j := range i {
			if !isEqual(row[j], m[j][i]) {
				return false
			}
		}
	}
	return true
}

// isEqual compares valid numbers, each of which has only one form.
func isEqual(a, b api.Rat) bool {
	return a.Num.Neg == b.Num.Neg && slices.Equal(a.Num.Mag, b.Num.Mag) && slices.Equal(a.Den.Mag, b.Den.Mag)
}

func isZero(r api.Rat) bool { return len(r.Num.Mag) == 0 }

func countColumns(m [][]api.Rat) int {
	if len(m) == 0 {
		return 0
	}
	return len(m[0])
}

// whole returns an integer as a number with memory of its own.
func whole(n int) api.Rat {
	r, _ := rational.Of(n, 1)
	return r
}

// negative returns 0 - a, which is never too big.
func negative(a api.Rat) api.Rat {
	r, _ := rational.Sub(whole(0), a)
	return r
}

// zeros returns n zeros, no two of which share memory.
func zeros(n int) []api.Rat {
	l := make([]api.Rat, n)
	for i := range l {
		l[i] = whole(0)
	}
	return l
}

// copyMatrix copies the rows and their numbers too, since a number that no operation changes becomes part of a result.
func copyMatrix(m [][]api.Rat) [][]api.Rat {
	copied := make([][]api.Rat, len(m))
	for i, row := range m {
		copied[i] = make([]api.Rat, len(row))
		for j, r := range row {
			copied[i][j] = api.Rat{Num: copyInt(r.Num), Den: copyInt(r.Den)}
		}
	}
	return copied
}

func copyInt(n api.Int) api.Int {
	limbs := make([]uint32, len(n.Mag))
	copy(limbs, n.Mag)
	return api.Int{Neg: n.Neg, Mag: limbs}
}

// appendColumn returns a matrix with a further column, which shares the memory of the numbers.
func appendColumn(m [][]api.Rat, column []api.Rat) [][]api.Rat {
	longer := make([][]api.Rat, len(m))
	for i, row := range m {
		longer[i] = slices.Concat(row, column[i:i+1])
	}
	return longer
}
