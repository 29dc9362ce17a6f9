package linear_test

import (
	"math/big"
	"math/rand"
	"slices"
	"testing"

	"straightedge/api"
	"straightedge/linear"
)

// exact returns the numbers of a matrix.
func exact(m [][]api.Rat) [][]*big.Rat {
	var l [][]*big.Rat
	for _, line := range m {
		l = append(l, exactList(line))
	}
	return l
}

func exactList(l []api.Rat) []*big.Rat {
	var numbers []*big.Rat
	for _, r := range l {
		numbers = append(numbers, toRat(r))
	}
	return numbers
}

// dot returns the sum of the products of corresponding numbers.
func dot(x, y []*big.Rat) *big.Rat {
	total := new(big.Rat)
	for i := range x {
		total.Add(total, times(x[i], y[i]))
	}
	return total
}

// expansion returns the determinant by expansion along the first row.
func expansion(m [][]*big.Rat) *big.Rat {
	if len(m) == 0 {
		return big.NewRat(1, 1)
	}
	total := new(big.Rat)
	for j := range m {
		var minor [][]*big.Rat
		for _, line := range m[1:] {
			minor = append(minor, slices.Concat(line[:j], line[j+1:]))
		}
		term := times(m[0][j], expansion(minor))
		if j%2 == 1 {
			term.Neg(term)
		}
		total.Add(total, term)
	}
	return total
}

// subsets calls f for all lists of k ascending numbers below n, until it returns true.
func subsets(n, k int, f func(l []int) bool) bool {
	if k == 0 {
		return f(nil)
	}
	for last := k - 1; last < n; last++ {
		if subsets(last, k-1, func(l []int) bool { return f(append(slices.Clone(l), last)) }) {
			return true
		}
	}
	return false
}

// minorRank returns the size of the greatest minor that is not 0.
func minorRank(m [][]*big.Rat, columns int) int {
	for k := min(len(m), columns); k > 0; k-- {
		found := subsets(len(m), k, func(rows []int) bool {
			return subsets(columns, k, func(chosen []int) bool {
				var minor [][]*big.Rat
				for _, i := range rows {
					var line []*big.Rat
					for _, j := range chosen {
						line = append(line, m[i][j])
					}
					minor = append(minor, line)
				}
				return expansion(minor).Sign() != 0
			})
		})
		if found {
			return k
		}
	}
	return 0
}

// checkEchelon checks that a matrix is a reduced row echelon form.
func checkEchelon(t *testing.T, form reduced) {
	t.Helper()
	for i, line := range form.rows {
		first := slices.IndexFunc(line, func(r api.Rat) bool { return !isZero(r) })
		if i >= len(form.pivots) {
			if first >= 0 {
				t.Fatal("P7.2: a row without a pivot is not 0:", matrixText(form.rows), form.pivots)
			}
			continue
		}
		if first != form.pivots[i] || !equalRat(line[first], ratio(1, 1)) || i > 0 && first <= form.pivots[i-1] {
			t.Fatal("P7.2: a wrong pivot:", matrixText(form.rows), form.pivots)
		}
		for other := range form.rows {
			if other != i && !isZero(form.rows[other][first]) {
				t.Fatal("P7.2: a column of a pivot is not reduced:", matrixText(form.rows), form.pivots)
			}
		}
	}
}

// checkSpan checks that every row of a matrix is the combination of rows of its reduced form that its elements at the pivot columns state.
func checkSpan(t *testing.T, m [][]api.Rat, form reduced) {
	t.Helper()
	rows := exact(form.rows)
	for _, line := range exact(m) {
		for k := range line {
			total := new(big.Rat)
			for i, pivot := range form.pivots {
				total.Add(total, times(line[pivot], rows[i][k]))
			}
			if total.Cmp(line[k]) != 0 {
				t.Fatal("P7.2: the rows of", matrixText(m), "are no combinations of", matrixText(form.rows))
			}
		}
	}
}

// TestReducedForms checks Reduce, Rank and Kernel by what determines their results, with ranks by minors.
func TestReducedForms(t *testing.T) {
	source := rand.New(rand.NewSource(75))
	for i := range 400 {
		m := drawMatrix(source, i%5, source.Intn(6), 1+source.Intn(60))
		form := must[reduced](t)(reduce(m))
		checkEchelon(t, form)
		checkSpan(t, m, form)
		rank := must[int](t)(linear.Rank(m))
		if want := minorRank(exact(m), width(m)); rank != want || len(form.pivots) != want {
			t.Fatal("P7.3: the rank of", matrixText(m), "is", rank, len(form.pivots), "and not", want)
		}
		again := must[reduced](t)(reduce(form.rows))
		if !equalReduced(again, form) {
			t.Fatal("P7.8: Reduce is not idempotent:", matrixText(m))
		}
		if got := must[int](t)(linear.Rank(transpose(m))); got != rank {
			t.Fatal("P7.3: the rank of the transpose of", matrixText(m), "is", got, "and not", rank)
		}
	}
}

// checkKernelOf checks that the vectors are a basis of the kernel, and the reduced one.
func checkKernelOf(t *testing.T, m, kernel [][]api.Rat) {
	t.Helper()
	if rank := must[int](t)(linear.Rank(m)); rank+len(kernel) != width(m) {
		t.Fatal("P7.8: the kernel of", matrixText(m), "with the rank", rank, "has", len(kernel), "vectors")
	}
	for i, v := range kernel {
		for _, line := range exact(m) {
			if dot(line, exactList(v)).Sign() != 0 {
				t.Fatal("P7.8: the kernel of", matrixText(m), "contains", text(v))
			}
		}
		// The last number that is not 0 is the 1 at a column without a pivot, where all other vectors are 0.
		last := len(v) - 1
		for isZero(v[last]) {
			last--
		}
		for j, w := range kernel {
			if i == j && !equalRat(w[last], ratio(1, 1)) || i != j && !isZero(w[last]) || j < i && !slices.ContainsFunc(w[:last], func(r api.Rat) bool { return !isZero(r) }) {
				t.Fatal("P7.3: the basis of the kernel of", matrixText(m), "is not reduced:", matrixText(kernel))
			}
		}
	}
}

func TestKernels(t *testing.T) {
	source := rand.New(rand.NewSource(76))
	for i := range 400 {
		m := drawMatrix(source, i%6, source.Intn(7), 1+source.Intn(60))
		checkKernelOf(t, m, must[[][]api.Rat](t)(linear.Kernel(m)))
	}
	for range 3 {
		m := drawMatrix(source, 20, api.MaxSide, 2)
		checkKernelOf(t, m, must[[][]api.Rat](t)(linear.Kernel(m)))
	}
}

func TestDeterminants(t *testing.T) {
	source := rand.New(rand.NewSource(77))
	for i := range 400 {
		n := i % 6
		bits := 1 + source.Intn(60)
		a, b := drawMatrix(source, n, n, bits), drawMatrix(source, n, n, bits)
		d := toRat(must[api.Rat](t)(linear.Det(a)))
		if want := expansion(exact(a)); d.Cmp(want) != 0 {
			t.Fatal("P7.5: the determinant of", matrixText(a), "is", d, "and not", want)
		}
		product := must[[][]api.Rat](t)(linear.Times(a, b))
		both := toRat(must[api.Rat](t)(linear.Det(product)))
		if both.Cmp(times(d, toRat(must[api.Rat](t)(linear.Det(b))))) != 0 {
			t.Fatal("P7.9: the determinant of the product of", matrixText(a), matrixText(b), "is", both)
		}
		if rank := must[int](t)(linear.Rank(a)); (d.Sign() == 0) != (rank < n) {
			t.Fatal("P7.9: the determinant of", matrixText(a), "with the rank", rank, "is", d)
		}
	}
}

func TestProducts(t *testing.T) {
	source := rand.New(rand.NewSource(78))
	for range 200 {
		rows, inner, columns := 1+source.Intn(6), 1+source.Intn(6), 1+source.Intn(6)
		a, b := drawMatrix(source, rows, inner, 40), drawMatrix(source, inner, columns, 40)
		product := must[[][]api.Rat](t)(linear.Times(a, b))
		if len(product) != rows || width(product) != columns {
			t.Fatal("P7.6: the product of", matrixText(a), matrixText(b), "is", matrixText(product))
		}
		for i, line := range exact(a) {
			for j, column := range exact(transpose(b)) {
				if toRat(product[i][j]).Cmp(dot(line, column)) != 0 {
					t.Fatal("P7.6: the product of", matrixText(a), matrixText(b), "is", matrixText(product))
				}
			}
		}
		if same := must[[][]api.Rat](t)(linear.Times(identity(rows), a)); !equalMatrix(same, a) {
			t.Fatal("P7.6: the product of the identity and", matrixText(a), "is", matrixText(same))
		}
	}
}

func TestSolutions(t *testing.T) {
	source := rand.New(rand.NewSource(79))
	counts := map[bool]int{}
	for i := range 600 {
		m := drawMatrix(source, 1+i%5, source.Intn(6), 1+source.Intn(40))
		b := drawList(source, len(m), 9)
		if i%2 == 0 {
			x := transpose([][]api.Rat{drawList(source, width(m), 9)})
			if width(m) > 0 {
				b = transpose(must[[][]api.Rat](t)(linear.Times(m, x)))[0]
			}
		}
		s := must[solved](t)(solve(m, b))
		longer := clone(m)
		for i := range longer {
			longer[i] = append(longer[i], b[i])
		}
		rank, longerRank := must[int](t)(linear.Rank(m)), must[int](t)(linear.Rank(longer))
		if s.is != (rank == longerRank) {
			t.Fatal("P7.9: Solve of", matrixText(m), text(b), "is", text(s.x), s.is, "with the ranks", rank, longerRank)
		}
		counts[s.is]++
		if !s.is {
			continue
		}
		free := width(m)
		for j, x := range s.x {
			if isZero(x) {
				free--
			}
			if !isZero(x) && !slices.Contains(must[reduced](t)(reduce(m)).pivots, j) {
				t.Fatal("P7.4: Solve of", matrixText(m), text(b), "is not 0 at a column without a pivot:", text(s.x))
			}
		}
		for i, line := range exact(m) {
			if dot(line, exactList(s.x)).Cmp(toRat(b[i])) != 0 {
				t.Fatal("P7.4: Solve of", matrixText(m), text(b), "is", text(s.x))
			}
		}
		if len(s.x) != width(m) || free > rank {
			t.Fatal("P7.4: Solve of", matrixText(m), text(b), "is", text(s.x))
		}
	}
	if counts[true] < 100 || counts[false] < 100 {
		t.Error("too few systems of one kind:", counts)
	}
}

// value returns the product x m x.
func value(m [][]api.Rat, x []api.Rat) *big.Rat {
	total := new(big.Rat)
	numbers := exactList(x)
	for i, line := range exact(m) {
		total.Add(total, times(numbers[i], dot(line, numbers)))
	}
	return total
}

// checkSum checks that a symmetric matrix is the sum of weighted squares, or that its form is negative somewhere.
func checkSum(t *testing.T, m [][]api.Rat, s sum) {
	t.Helper()
	if len(s.negative) > 0 {
		if len(s.weights) > 0 || len(s.forms) > 0 || len(s.negative) != len(m) || value(m, s.negative).Sign() >= 0 {
			t.Fatal("P7.7: the form of", matrixText(m), "is not negative at", text(s.negative), "or there are forms beside it")
		}
		return
	}
	if len(s.weights) != len(s.forms) {
		t.Fatal("P7.7: weights", text(s.weights), "forms", matrixText(s.forms), "of", matrixText(m))
	}
	total := exact(rectangle(len(m), len(m), ratio(0, 1)))
	for n, form := range exact(s.forms) {
		weight := toRat(s.weights[n])
		if weight.Sign() <= 0 || len(form) != len(m) {
			t.Fatal("P7.7: weight", weight, "form", form, "of", matrixText(m))
		}
		for i := range form {
			for j := range form {
				total[i][j].Add(total[i][j], times(weight, times(form[i], form[j])))
			}
		}
	}
	for i, line := range exact(m) {
		for j, x := range line {
			if x.Cmp(total[i][j]) != 0 {
				t.Fatal("P7.7: the sum of the squares", text(s.weights), matrixText(s.forms), "is not", matrixText(m))
			}
		}
	}
}

// isSum reports whether a symmetric matrix is a sum of weighted squares: whether none of its principal minors is negative.
func isSum(m [][]api.Rat) bool {
	numbers := exact(m)
	for k := range len(m) + 1 {
		if subsets(len(m), k, func(l []int) bool {
			var minor [][]*big.Rat
			for _, i := range l {
				var line []*big.Rat
				for _, j := range l {
					line = append(line, numbers[i][j])
				}
				minor = append(minor, line)
			}
			return expansion(minor).Sign() < 0
		}) {
			return false
		}
	}
	return true
}

func TestSums(t *testing.T) {
	source := rand.New(rand.NewSource(80))
	counts := map[bool]int{}
	for i := range 800 {
		m := drawSymmetric(source, i%6, 1+source.Intn(40))
		s := must[sum](t)(squares(m))
		checkSum(t, m, s)
		if isSum(m) != (len(s.negative) == 0) {
			t.Fatal("P7.10: Squares of", matrixText(m), "is", text(s.weights), matrixText(s.forms), text(s.negative))
		}
		counts[len(s.negative) == 0]++
	}
	if counts[true] < 100 || counts[false] < 100 {
		t.Error("too few matrices of one kind:", counts)
	}
}

// TestSmallSums checks all symmetric matrices of three rows with small elements.
func TestSmallSums(t *testing.T) {
	elements := make([]int, 6)
	for range 3 * 3 * 3 * 3 * 3 * 3 {
		var l []*big.Rat
		for i, n := range elements {
			l = append(l, big.NewRat(int64(n-1+i%2), 1))
		}
		m := symmetric(3, l...)
		checkSquares(t, m)
		s := must[sum](t)(squares(m))
		checkSum(t, m, s)
		if isSum(m) != (len(s.negative) == 0) {
			t.Fatal("P7.10: Squares of", matrixText(m), "is", text(s.weights), matrixText(s.forms), text(s.negative))
		}
		for i := range elements {
			elements[i] = (elements[i] + 1) % 3
			if elements[i] != 0 {
				break
			}
		}
	}
}
