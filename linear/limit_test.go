package linear_test

import (
	"math"
	"math/big"
	"math/rand"
	"testing"

	"straightedge/api"
	"straightedge/linear"
)

// outcomes counts the errors of a function.
type outcomes map[string]map[api.Errno]int

func (o outcomes) add(what string, e api.Errno) {
	if o[what] == nil {
		o[what] = map[api.Errno]int{}
	}
	o[what][e]++
}

// bothSides checks that each function was tried often enough on both sides of the limit.
func (o outcomes) bothSides(t *testing.T, least int) {
	t.Helper()
	for what, counts := range o {
		if counts[api.OK] < least || counts[api.ErrTooBig] < least {
			t.Error("too few calls on one side of the limit:", what, counts)
		}
	}
}

// drawBits returns a number of bits from 1 to most. Half of them are great; of the others, small ones are as likely as great ones.
func drawBits(source *rand.Rand, most int) int {
	if source.Intn(2) == 0 {
		return most - source.Intn(most/2)
	}
	return int(math.Exp(source.Float64() * math.Log(float64(most))))
}

func TestLimits(t *testing.T) {
	source := rand.New(rand.NewSource(73))
	o := outcomes{}
	for range 1000 {
		n := 1 + source.Intn(4)
		m := drawMatrix(source, n, 1+source.Intn(4), drawBits(source, 3000))
		o.add("Reduce", checkReduce(t, m))
		o.add("Rank", checkRank(t, m))
		o.add("Kernel", checkKernel(t, m))
		o.add("Solve", checkSolve(t, m, drawList(source, n, drawBits(source, 2000))))
		o.add("Times", checkTimes(t, drawMatrix(source, n, len(m), drawBits(source, 4000)), m))
		o.add("Det", checkDet(t, drawMatrix(source, n, n, drawBits(source, 3000))))
		o.add("Squares", checkSquares(t, drawSymmetric(source, n, drawBits(source, limbBits))))
	}
	o.bothSides(t, 100)
}

// TestMixedLimits has matrices of which a few numbers are long.
func TestMixedLimits(t *testing.T) {
	source := rand.New(rand.NewSource(74))
	o := outcomes{}
	for range 1000 {
		n := 2 + source.Intn(4)
		m := drawMatrix(source, n, n, 2)
		q := drawSymmetric(source, n, 6)
		for range 1 + source.Intn(3) {
			i, j := source.Intn(n), source.Intn(n)
			long := drawNumber(source, drawBits(source, limbBits))
			m[i][j], q[i][j], q[j][i] = long, long, long
		}
		o.add("Reduce", checkReduce(t, m))
		o.add("Det", checkDet(t, m))
		o.add("Solve", checkSolve(t, m, drawList(source, n, drawBits(source, limbBits))))
		o.add("Squares", checkSquares(t, q))
	}
	o.bothSides(t, 100)
}

// limitCase is a matrix for which a single operation decides whether it is too big.
type limitCase struct {
	what string
	m    [][]api.Rat
	want api.Errno
}

// checkLimits checks the error of a function.
func checkLimits(t *testing.T, call func(m [][]api.Rat) api.Errno, cases []limitCase) {
	t.Helper()
	for i, x := range cases {
		if e := call(x.m); e != x.want {
			t.Error(x.what, i, "error", e, "and not", x.want)
		}
	}
}

// The numbers of the limits: the square of half is too big, and that of less is not.
var (
	zero, one, two, minusOne = new(big.Rat), big.NewRat(1, 1), big.NewRat(2, 1), big.NewRat(-1, 1)
	most                     = wide(limbBits, -1)
	half                     = wide(limbBits/2, 0)
	less                     = wide(limbBits/2, -1)
)

func TestLimitsOfReduce(t *testing.T) {
	checkLimits(t, func(m [][]api.Rat) api.Errno { _, e := reduce(m); return e }, []limitCase{
		{"P7.2: division", [][]api.Rat{row(one, most, inverse(most), minus(most))}, api.OK},
		{"P7.2: division", [][]api.Rat{row(two, inverse(most))}, api.ErrTooBig},
		{"P7.2: division of the last one", [][]api.Rat{row(inverse(half), zero, zero, half)}, api.ErrTooBig},
		{"P7.2: division of the last one", [][]api.Rat{row(inverse(less), zero, zero, less)}, api.OK},
		{"P7.2: a number divided by itself", [][]api.Rat{row(times(half, inverse(less)))}, api.OK},
		{"P7.2: a number divided by itself", [][]api.Rat{row(times(half, inverse(wide(limbBits/2, 1))))}, api.ErrTooBig},
		{"P7.2: product", [][]api.Rat{row(one, half), row(half, zero)}, api.ErrTooBig},
		{"P7.2: product", [][]api.Rat{row(one, less), row(less, zero)}, api.OK},
		{"P7.2: no product", [][]api.Rat{row(one, half), row(zero, half)}, api.OK},
		{"P7.2: product above", [][]api.Rat{row(one, half, zero), row(zero, one, half)}, api.ErrTooBig},
		{"P7.2: product above", [][]api.Rat{row(one, less, zero), row(zero, one, less)}, api.OK},
		{"P7.2: difference", [][]api.Rat{row(one, one), row(minusOne, most)}, api.ErrTooBig},
		{"P7.2: difference", [][]api.Rat{row(one, minusOne), row(minusOne, most)}, api.OK},
		{"P7.2: difference above", [][]api.Rat{row(one, minusOne, most), row(zero, one, one)}, api.ErrTooBig},
		{"P7.2: difference above", [][]api.Rat{row(one, minusOne, most), row(zero, one, minusOne)}, api.OK},
		{"P7.2: the first row is the pivot row", [][]api.Rat{row(one, zero), row(half, inverse(half))}, api.OK},
		{"P7.2: the first row is the pivot row", [][]api.Rat{row(half, inverse(half)), row(one, zero)}, api.ErrTooBig},
		{"P7.2: the rows are not ordered by it", [][]api.Rat{row(zero, zero, one, one), row(one, zero, zero, zero), row(zero, zero, minusOne, most)}, api.ErrTooBig},
	})
}

func TestLimitsOfKernel(t *testing.T) {
	bad := [][]api.Rat{row(one, half, zero), row(zero, one, half)}
	if rank, e := linear.Rank(bad); rank != 0 || e != api.ErrTooBig {
		t.Error("P7.3: Rank:", rank, "with error", e)
	}
	if kernel, e := linear.Kernel(bad); len(kernel) > 0 || e != api.ErrTooBig {
		t.Error("P7.3: Kernel:", matrixText(kernel), "with error", e)
	}
	kernel, e := linear.Kernel([][]api.Rat{row(one, most, inverse(most), minus(most))})
	want := [][]api.Rat{row(minus(most), one, zero, zero), row(minus(inverse(most)), zero, one, zero), row(most, zero, zero, one)}
	if e != api.OK || !equalMatrix(kernel, want) {
		t.Error("P7.3: Kernel:", matrixText(kernel), "with error", e)
	}
}

func TestLimitsOfSolve(t *testing.T) {
	call := func(m [][]api.Rat) api.Errno {
		last := m[len(m)-1]
		_, e := solve(m[:len(m)-1], last)
		return e
	}
	checkLimits(t, call, []limitCase{
		{"P7.4: the right side", [][]api.Rat{row(two), row(inverse(most))}, api.ErrTooBig},
		{"P7.4: the right side", [][]api.Rat{row(two), row(inverse(wide(limbBits-1, -1)))}, api.OK},
		{"P7.4: no solution", [][]api.Rat{row(one), row(one), row(half, less)}, api.OK},
		{"P7.4: too big for a solution", [][]api.Rat{row(one), row(one), row(minusOne, most)}, api.ErrTooBig},
		{"P7.4: too big after the last column is a pivot column", [][]api.Rat{row(one), row(one), row(zero), row(inverse(less), zero, half)}, api.OK},
		{"P7.4: too big after the last column is a pivot column", [][]api.Rat{row(one), row(half), row(half), row(one, zero, half)}, api.OK},
		{"P7.4: the last column is reduced too", [][]api.Rat{row(zero), row(times(less, inverse(half))), row(wide(limbBits/2, 1), one)}, api.OK},
		{"P7.4: the last column is reduced too", [][]api.Rat{row(zero), row(zero), row(times(half, inverse(wide(limbBits/2, 1))), one)}, api.ErrTooBig},
	})
}

func TestLimitsOfDet(t *testing.T) {
	third := big.NewRat(1, 3)
	checkLimits(t, func(m [][]api.Rat) api.Errno { _, e := linear.Det(m); return e }, []limitCase{
		{"P7.5: product of the pivots", [][]api.Rat{row(half, zero), row(zero, half)}, api.ErrTooBig},
		{"P7.5: product of the pivots", [][]api.Rat{row(less, zero), row(zero, less)}, api.OK},
		{"P7.5: product in order", [][]api.Rat{row(half, zero, zero), row(zero, half, zero), row(zero, zero, inverse(half))}, api.ErrTooBig},
		{"P7.5: product in order", [][]api.Rat{row(half, zero, zero), row(zero, inverse(half), zero), row(zero, zero, half)}, api.OK},
		{"P7.5: 0 after the limit", [][]api.Rat{row(half, zero, zero), row(zero, half, zero), row(zero, zero, zero)}, api.ErrTooBig},
		{"P7.5: 0 before the limit", [][]api.Rat{row(half, zero, zero), row(zero, zero, half), row(zero, zero, half)}, api.OK},
		{"P7.5: 0 before all else", [][]api.Rat{row(zero, half, half), row(zero, half, one), row(zero, one, most)}, api.OK},
		{"P7.5: nothing above the pivot", [][]api.Rat{row(one, half, zero), row(zero, one, half), row(zero, zero, zero)}, api.OK},
		{"P7.5: the pivot row is not divided", [][]api.Rat{row(two, inverse(most)), row(zero, one)}, api.OK},
		{"P7.5: quotient", [][]api.Rat{row(half, zero), row(inverse(half), zero)}, api.ErrTooBig},
		{"P7.5: quotient", [][]api.Rat{row(less, zero), row(inverse(less), zero)}, api.OK},
		{"P7.5: product with the pivot itself", [][]api.Rat{row(times(half, third), zero), row(wide(limbBits/2, 1), zero)}, api.ErrTooBig},
		{"P7.5: product with the pivot itself", [][]api.Rat{row(times(wide(limbBits/2-2, 0), third), zero), row(wide(limbBits/2, 1), zero)}, api.OK},
		{"P7.5: product", [][]api.Rat{row(one, half), row(half, zero)}, api.ErrTooBig},
		{"P7.5: product", [][]api.Rat{row(one, less), row(less, zero)}, api.OK},
		{"P7.5: no product", [][]api.Rat{row(one, half), row(zero, half)}, api.OK},
		{"P7.5: difference", [][]api.Rat{row(one, one), row(minusOne, most)}, api.ErrTooBig},
		{"P7.5: difference", [][]api.Rat{row(one, minusOne), row(minusOne, most)}, api.OK},
		{"P7.5: the first row is the pivot row", [][]api.Rat{row(one, half), row(inverse(less), one)}, api.OK},
		{"P7.5: the first row is the pivot row", [][]api.Rat{row(inverse(less), one), row(one, times(half, half).Sub(half, one))}, api.OK},
		{"P7.5: an exchange", [][]api.Rat{row(zero, most), row(minusOne, zero)}, api.OK},
	})
}

func TestLimitsOfTimes(t *testing.T) {
	line := func(l ...*big.Rat) [][]api.Rat { return [][]api.Rat{row(l...)} }
	for i, x := range []struct {
		what string
		a, b [][]api.Rat
		want api.Errno
	}{
		{"product", line(half), line(half), api.ErrTooBig},
		{"product", line(less), line(less), api.OK},
		{"product with 0", line(most, zero), line(zero, most), api.OK},
		{"sum", line(one, one), line(most, one), api.ErrTooBig},
		{"sum", line(one, one), line(most, minusOne), api.OK},
		{"sum in order", line(one, one, one), line(most, one, minusOne), api.ErrTooBig},
		{"sum in order", line(one, one, one), line(one, minusOne, most), api.OK},
		{"denominators", line(one, one), line(inverse(half), inverse(wide(limbBits/2, 1))), api.ErrTooBig},
		{"the last element", [][]api.Rat{row(one, zero), row(zero, half)}, line(one, half), api.ErrTooBig},
	} {
		got, e := linear.Times(x.a, transpose(x.b))
		if e != x.want || e != api.OK && len(got) > 0 {
			t.Error("P7.6:", x.what, i, "error", e, "and not", x.want)
		}
	}
}

// symmetric returns the matrix of the elements on the diagonal and above it.
func symmetric(n int, l ...*big.Rat) [][]api.Rat {
	m := rectangle(n, n, ratio(0, 1))
	for i := range n {
		for j := i; j < n; j++ {
			m[i][j] = fromRat(l[0])
			m[j][i] = m[i][j]
			l = l[1:]
		}
	}
	return m
}

func TestLimitsOfSquares(t *testing.T) {
	checkLimits(t, func(m [][]api.Rat) api.Errno { _, e := squares(m); return e }, []limitCase{
		{"P7.7: the form", symmetric(2, two, inverse(most), one), api.ErrTooBig},
		{"P7.7: the form", symmetric(2, one, inverse(less), one), api.OK},
		{"P7.7: the last form", symmetric(1, most), api.OK},
		{"P7.7: product", symmetric(2, one, half, most), api.ErrTooBig},
		{"P7.7: product", symmetric(2, one, less, most), api.OK},
		{"P7.7: difference", symmetric(3, one, one, minusOne, zero, most, one), api.ErrTooBig},
		{"P7.7: difference", symmetric(3, one, one, one, zero, most, one), api.OK},
		{"P7.7: product above the diagonal", symmetric(3, half, less, wide(limbBits/2+1, 0), one, zero, one), api.ErrTooBig},
		{"P7.7: product below the diagonal", symmetric(3, half, wide(limbBits/2+1, 0), less, one, zero, one), api.ErrTooBig},
		{"P7.7: product below the diagonal", symmetric(3, half, half, less, one, zero, one), api.OK},
		{"P7.7: negative before the limit", symmetric(3, minusOne, zero, zero, one, half, one), api.OK},
		{"P7.7: negative before the limit", symmetric(3, minusOne, half, half, half, half, half), api.OK},
		{"P7.7: negative after the limit", symmetric(3, one, half, zero, one, zero, minusOne), api.ErrTooBig},
		{"P7.7: a column that is 0", symmetric(2, zero, zero, most), api.OK},
		{"P7.7: m[k][k] + 1", symmetric(2, zero, one, most), api.ErrTooBig},
		{"P7.7: m[k][k] + 1", symmetric(2, zero, one, minus(most)), api.OK},
		{"P7.7: m[j][k] + m[j][k]", symmetric(2, zero, wide(limbBits-1, 0), zero), api.ErrTooBig},
		{"P7.7: m[j][k] + m[j][k]", symmetric(2, zero, wide(limbBits-1, -1), zero), api.OK},
		{"P7.7: t", symmetric(2, zero, inverse(less), wide(limbBits/2, 1)), api.ErrTooBig},
		{"P7.7: t", symmetric(2, zero, inverse(less), half), api.OK},
		{"P7.7: the first k", symmetric(3, zero, one, one, one, zero, most), api.OK},
		{"P7.7: the first k", symmetric(3, zero, one, one, most, zero, one), api.ErrTooBig},
		{"P7.7: product of a form and v", symmetric(3, one, less, zero, times(less, less), big.NewRat(1, 2), wide(limbBits/2+1, 0)), api.ErrTooBig},
		{"P7.7: product of a form and v", symmetric(3, one, less, zero, times(less, less), big.NewRat(1, 2), one), api.OK},
		{"P7.7: negative of itself", symmetric(3, one, less, one, times(less, less), less, zero), api.OK},
	})
}
