package modular_test

import (
	"math"
	"math/big"
	"math/rand"
	"slices"
	"testing"

	"straightedge/api"
	"straightedge/modular"
)

// vectors returns all vectors of n residues.
func vectors(n, p int) [][]int {
	l := [][]int{nil}
	for range n {
		var longer [][]int
		for _, v := range l {
			for x := range p {
				longer = append(longer, append(slices.Clone(v), x))
			}
		}
		l = longer
	}
	return l
}

// isInKernel reports whether the product of a matrix and a vector is 0.
func isInKernel(m [][]int, v []int, p int) bool {
	for _, row := range m {
		sum := new(big.Int)
		for i, a := range row {
			sum.Add(sum, new(big.Int).Mul(big.NewInt(int64(a)), big.NewInt(int64(v[i]))))
		}
		if residue(sum, p) != 0 {
			return false
		}
	}
	return true
}

// lastPlace returns the place of the last element that is not 0; -1 if there is none.
func lastPlace(v []int) int {
	for i := len(v) - 1; i >= 0; i-- {
		if v[i] != 0 {
			return i
		}
	}
	return -1
}

// wantKernel returns the kernel that the contract describes, by all vectors: a column is free if it depends on the columns before it.
func wantKernel(m [][]int, columns, p int) [][]int {
	var inKernel [][]int
	free := make([]bool, columns)
	for _, v := range vectors(columns, p) {
		if isInKernel(m, v, p) {
			inKernel = append(inKernel, v)
			if at := lastPlace(v); at >= 0 {
				free[at] = true
			}
		}
	}
	var kernel [][]int
	for f := range columns {
		for _, v := range inKernel {
			fits := free[f]
			for i, x := range v {
				fits = fits && (!free[i] || i == f && x == 1 || i != f && x == 0)
			}
			if fits {
				kernel = append(kernel, v)
			}
		}
	}
	return kernel
}

// other returns another integer with the same residue.
func other(source *rand.Rand, n, p int) int {
	switch source.Intn(3) {
	case 0:
		return n
	case 1:
		return n - p
	}
	return n + (source.Intn(1<<31)-1<<30)*p
}

// TestAllSmall checks matrices with few elements of all kinds.
func TestAllSmall(t *testing.T) {
	source := rand.New(rand.NewSource(9))
	for _, c := range []struct{ p, most int }{{3, 5}, {5, 4}, {7, 3}, {11, 3}} {
		for range 600 {
			rows, columns := source.Intn(5), 1+source.Intn(c.most)
			m := make([][]int, rows)
			for i := range m {
				m[i] = make([]int, columns)
				for j := range m[i] {
					m[i][j] = other(source, source.Intn(c.p)*source.Intn(2), c.p)
				}
			}
			if rows == 0 {
				columns = 0
			}
			want := wantKernel(m, columns, c.p)
			checkMatrix(t, m, c.p, columns-len(want), want)
		}
	}
}

// built is a matrix of which the reduced row echelon form is known.
type built struct {
	m      [][]int
	rank   int
	kernel [][]int
}

// reducedRows returns rows in reduced row echelon form with pivots in these columns.
func reducedRows(source *rand.Rand, pivots []int, columns, p int) [][]int {
	var rows [][]int
	for _, pivot := range pivots {
		row := make([]int, columns)
		row[pivot] = 1
		for j := pivot + 1; j < columns; j++ {
			if !slices.Contains(pivots, j) {
				row[j] = source.Intn(p)
			}
		}
		rows = append(rows, row)
	}
	return rows
}

// build combines rows in reduced row echelon form to other rows, which have the same row space.
func build(source *rand.Rand, rows, columns, rank, p int) built {
	pivots := source.Perm(columns)[:rank]
	slices.Sort(pivots)
	reduced := reducedRows(source, pivots, columns, p)
	m := make([][]int, rows)
	for i := range m {
		m[i] = make([]int, columns)
		for k, row := range reduced {
			// The first rows are independent: a triangle with ones.
			factor := source.Intn(p)
			if i < rank && k >= i {
				factor = 1 - min(k-i, 1)
			}
			for j := range row {
				m[i][j] = (m[i][j] + product(factor, row[j], p)) % p
			}
		}
	}
	source.Shuffle(rows, func(i, j int) { m[i], m[j] = m[j], m[i] })
	for _, row := range m {
		for j := range row {
			row[j] = other(source, row[j], p)
		}
	}
	b := built{m: m, rank: rank}
	for f := range columns {
		if slices.Contains(pivots, f) {
			continue
		}
		v := make([]int, columns)
		v[f] = 1
		for k, pivot := range pivots {
			v[pivot] = (p - reduced[k][f]) % p
		}
		b.kernel = append(b.kernel, v)
	}
	return b
}

func TestBuilt(t *testing.T) {
	source := rand.New(rand.NewSource(10))
	for _, p := range append(largePrimes(), 3, 5, 7, 101) {
		for range 20 {
			rows, columns := 1+source.Intn(12), 1+source.Intn(12)
			b := build(source, rows, columns, source.Intn(min(rows, columns)+1), p)
			checkMatrix(t, b.m, p, b.rank, b.kernel)
		}
	}
	for _, p := range []int{3, 2013265921, api.MaxPrime} {
		for _, c := range [][3]int{{64, 64, 64}, {64, 64, 63}, {64, 64, 20}, {64, 64, 0}, {1, 64, 1}, {64, 1, 1}, {64, 63, 40}, {2, 64, 1}} {
			b := build(source, c[0], c[1], c[2], p)
			checkMatrix(t, b.m, p, b.rank, b.kernel)
		}
	}
}

// TestShapes checks matrices without rows or columns, and those with the greatest ones.
func TestShapes(t *testing.T) {
	for _, p := range testPrimes() {
		for _, m := range [][][]int{nil, {}, {{}}, {nil}, {nil, {}}, make([][]int, api.MaxSide)} {
			checkMatrix(t, m, p, 0, nil)
		}
		for _, columns := range []int{1, 2, api.MaxSide} {
			m := [][]int{make([]int, columns), make([]int, columns)}
			m[0][0], m[1][columns-1] = p, -p
			var all [][]int
			for f := range columns {
				v := make([]int, columns)
				v[f] = 1
				all = append(all, v)
			}
			checkMatrix(t, m, p, 0, all)
			square := slices.Clone(all)
			slices.Reverse(square)
			checkMatrix(t, square, p, columns, nil)
		}
	}
}

// TestElements checks elements at the ends of the range.
func TestElements(t *testing.T) {
	least, greatest := math.MinInt64, math.MaxInt64
	for _, p := range testPrimes() {
		small := func(n int) int { return residue(big.NewInt(int64(n)), p) }
		m := [][]int{{least, greatest, least}, {greatest, least, greatest - p + 1}, {least + 1, -1, 1}}
		reduced := [][]int{{small(least), small(greatest), small(least)}, {small(greatest), small(least), small(greatest - p + 1)}, {small(least + 1), p - 1, 1}}
		rank := must[int](t)(modular.Rank(reduced, p))
		kernel := must[[][]int](t)(modular.Kernel(reduced, p))
		checkMatrix(t, m, p, rank, kernel)
		for _, v := range kernel {
			if !isInKernel(m, v, p) {
				t.Error("P6.5: Kernel modulo", p, "of", m, "contains", v)
			}
		}
		row := [][]int{{1, least, greatest}}
		checkMatrix(t, row, p, 1, [][]int{{(p - small(least)) % p, 1, 0}, {(p - small(greatest)) % p, 0, 1}})
	}
	// The rank depends on the prime.
	m := [][]int{{1, 2}, {3, 4}, {5, 13}}
	checkMatrix(t, m, 3, 2, nil)
	checkMatrix(t, m[:2], 5, 2, nil)
	checkMatrix(t, [][]int{{1, 2}, {3, 11}}, 5, 1, [][]int{{3, 1}})
}
