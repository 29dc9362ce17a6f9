package linear_test

import (
	"slices"
	"testing"

	"straightedge/api"
	"straightedge/linear"
	"straightedge/rational"
)

// This file restates the chapter's contracts word by word: each of them makes all operations that it lists again, those with zeros too, and stops at the first error.

// stop is the panic of a contract that ends with an error.
type stop struct{ because api.Errno }

// need returns the result of a call, and stops at an error.
func need[T any](v T, e api.Errno) T {
	refuse(e != api.OK, e)
	return v
}

// refuse stops with an error if something is wrong.
func refuse(wrong bool, e api.Errno) {
	if wrong {
		panic(stop{e})
	}
}

// expect returns the result that a contract states, or its error.
func expect[T any](contract func() T) (v T, e api.Errno) {
	defer func() {
		if cause := recover(); cause != nil {
			e = cause.(stop).because
		}
	}()
	return contract(), api.OK
}

func isZero(r api.Rat) bool { return rational.Sign(r) == 0 }

func wantCheck(m [][]api.Rat) int {
	refuse(len(m) > api.MaxSide, api.ErrTooBig)
	for _, line := range m {
		refuse(len(line) > api.MaxSide, api.ErrTooBig)
	}
	for _, line := range m {
		refuse(len(line) != len(m[0]), api.ErrArg)
		for _, r := range line {
			refuse(!rational.Valid(r), api.ErrArg)
		}
	}
	return 0
}

// wantPivot returns the pivot row for a column and a number of rows; -1 if there is none.
func wantPivot(m [][]api.Rat, column, r int) int {
	for i := range m {
		if i >= r && !isZero(m[i][column]) {
			return i
		}
	}
	return -1
}

func wantReduce(m [][]api.Rat) reduced {
	wantCheck(m)
	m = clone(m)
	var pivots []int
	r := 0
	for j := range width(m) {
		pivot := wantPivot(m, j, r)
		if pivot < 0 {
			continue
		}
		m[pivot], m[r] = m[r], m[pivot]
		p := m[r][j]
		for k := range m[r] {
			m[r][k] = need(rational.Div(m[r][k], p))
		}
		for i := range m {
			f := m[i][j]
			if i == r || isZero(f) {
				continue
			}
			for k := range m[i] {
				product := need(rational.Mul(m[r][k], f))
				m[i][k] = need(rational.Sub(m[i][k], product))
			}
		}
		pivots = append(pivots, j)
		r++
	}
	return reduced{m, pivots}
}

func wantRank(m [][]api.Rat) int { return len(wantReduce(m).pivots) }

func wantKernel(m [][]api.Rat) [][]api.Rat {
	form := wantReduce(m)
	var basis [][]api.Rat
	for j := range width(m) {
		if slices.Contains(form.pivots, j) {
			continue
		}
		v := make([]api.Rat, width(m))
		for k := range v {
			v[k] = ratio(0, 1)
		}
		v[j] = ratio(1, 1)
		for i, pivot := range form.pivots {
			v[pivot] = need(rational.Sub(ratio(0, 1), form.rows[i][j]))
		}
		basis = append(basis, v)
	}
	return basis
}

func wantSolve(m [][]api.Rat, b []api.Rat) solved {
	wantCheck(m)
	refuse(len(b) != len(m), api.ErrArg)
	for _, r := range b {
		refuse(!rational.Valid(r), api.ErrArg)
	}
	refuse(width(m) == api.MaxSide, api.ErrTooBig)
	longer := clone(m)
	for i := range longer {
		longer[i] = append(longer[i], b[i])
	}
	form := wantReduce(longer)
	if slices.Contains(form.pivots, width(m)) {
		return solved{nil, false}
	}
	x := make([]api.Rat, width(m))
	for k := range x {
		x[k] = ratio(0, 1)
	}
	for i, pivot := range form.pivots {
		x[pivot] = form.rows[i][width(m)]
	}
	return solved{x, true}
}

func wantDet(m [][]api.Rat) api.Rat {
	wantCheck(m)
	refuse(len(m) != width(m), api.ErrArg)
	m = clone(m)
	d := ratio(1, 1)
	for j := range m {
		pivot := wantPivot(m, j, j)
		if pivot < 0 {
			return ratio(0, 1)
		}
		if pivot != j {
			m[pivot], m[j] = m[j], m[pivot]
			d = need(rational.Sub(ratio(0, 1), d))
		}
		d = need(rational.Mul(d, m[j][j]))
		for i := j + 1; i < len(m); i++ {
			if isZero(m[i][j]) {
				continue
			}
			f := need(rational.Div(m[i][j], m[j][j]))
			for k := j; k < len(m); k++ {
				product := need(rational.Mul(m[j][k], f))
				m[i][k] = need(rational.Sub(m[i][k], product))
			}
		}
	}
	return d
}

func wantTimes(a, b [][]api.Rat) [][]api.Rat {
	wantCheck(a)
	wantCheck(b)
	refuse(width(a) != len(b), api.ErrArg)
	product := make([][]api.Rat, len(a))
	for i := range a {
		for j := range width(b) {
			total := ratio(0, 1)
			for k := range b {
				p := need(rational.Mul(a[i][k], b[k][j]))
				total = need(rational.Add(total, p))
			}
			product[i] = append(product[i], total)
		}
	}
	return product
}

func wantSquares(m [][]api.Rat) sum {
	wantCheck(m)
	refuse(len(m) != width(m), api.ErrArg)
	for i := range m {
		for j := range m {
			refuse(need(rational.Cmp(m[i][j], m[j][i])) != 0, api.ErrArg)
		}
	}
	m = clone(m)
	n := len(m)
	var s sum
	var leads []int
	for j := range n {
		p := m[j][j]
		v := make([]api.Rat, n)
		for i := range v {
			v[i] = ratio(0, 1)
		}
		next := slices.IndexFunc(m[j][j+1:], func(r api.Rat) bool { return !isZero(r) })
		switch k := j + 1 + next; {
		case rational.Sign(p) > 0:
			form := v
			form[j] = ratio(1, 1)
			for k := j + 1; k < n; k++ {
				form[k] = need(rational.Div(m[j][k], p))
			}
			for i := j + 1; i < n; i++ {
				for k := j + 1; k < n; k++ {
					product := need(rational.Mul(form[i], m[j][k]))
					m[i][k] = need(rational.Sub(m[i][k], product))
				}
			}
			s.weights, s.forms, leads = append(s.weights, p), append(s.forms, form), append(leads, j)
			continue
		case rational.Sign(p) < 0:
			v[j] = ratio(1, 1)
		case next < 0:
			continue
		default:
			v[k] = ratio(1, 1)
			above := need(rational.Add(m[k][k], ratio(1, 1)))
			below := need(rational.Sub(ratio(0, 1), above))
			twice := need(rational.Add(m[j][k], m[j][k]))
			v[j] = need(rational.Div(below, twice))
		}
		for at := len(leads) - 1; at >= 0; at-- {
			i := leads[at]
			total := ratio(0, 1)
			for k := i + 1; k < n; k++ {
				product := need(rational.Mul(s.forms[at][k], v[k]))
				total = need(rational.Add(total, product))
			}
			v[i] = need(rational.Sub(ratio(0, 1), total))
		}
		return sum{negative: v}
	}
	return s
}

// checkResult compares a result with that of a contract. With an error, both are the zero value.
func checkResult[T any](t *testing.T, same func(a, b T) bool, got T, e api.Errno, contract func() T, about ...any) api.Errno {
	t.Helper()
	want, wantError := expect(contract)
	if e != wantError || !same(got, want) {
		t.Fatal(append(about, "is", got, "with error", e, "and not", want, "with error", wantError)...)
	}
	return e
}

func checkCheck(t *testing.T, m [][]api.Rat) api.Errno {
	t.Helper()
	same := func(a, b int) bool { return a == b }
	return checkResult(t, same, 0, linear.Check(m), func() int { return wantCheck(m) }, "P7.1: Check of", matrixText(m))
}

func checkReduce(t *testing.T, m [][]api.Rat) api.Errno {
	t.Helper()
	got, e := reduce(m)
	return checkResult(t, equalReduced, got, e, func() reduced { return wantReduce(m) }, "P7.2: Reduce of", matrixText(m))
}

func checkRank(t *testing.T, m [][]api.Rat) api.Errno {
	t.Helper()
	got, e := linear.Rank(m)
	same := func(a, b int) bool { return a == b }
	return checkResult(t, same, got, e, func() int { return wantRank(m) }, "P7.3: Rank of", matrixText(m))
}

func checkKernel(t *testing.T, m [][]api.Rat) api.Errno {
	t.Helper()
	got, e := linear.Kernel(m)
	return checkResult(t, equalMatrix, got, e, func() [][]api.Rat { return wantKernel(m) }, "P7.3: Kernel of", matrixText(m))
}

func checkSolve(t *testing.T, m [][]api.Rat, b []api.Rat) api.Errno {
	t.Helper()
	got, e := solve(m, b)
	return checkResult(t, equalSolved, got, e, func() solved { return wantSolve(m, b) }, "P7.4: Solve of", matrixText(m), text(b))
}

func checkDet(t *testing.T, m [][]api.Rat) api.Errno {
	t.Helper()
	got, e := linear.Det(m)
	return checkResult(t, equalRat, got, e, func() api.Rat { return wantDet(m) }, "P7.5: Det of", matrixText(m))
}

func checkTimes(t *testing.T, a, b [][]api.Rat) api.Errno {
	t.Helper()
	got, e := linear.Times(a, b)
	return checkResult(t, equalMatrix, got, e, func() [][]api.Rat { return wantTimes(a, b) }, "P7.6: Times of", matrixText(a), matrixText(b))
}

func checkSquares(t *testing.T, m [][]api.Rat) api.Errno {
	t.Helper()
	got, e := squares(m)
	return checkResult(t, equalSum, got, e, func() sum { return wantSquares(m) }, "P7.7: Squares of", matrixText(m))
}

// checkAll checks all functions of one matrix; b is the right side for Solve.
func checkAll(t *testing.T, m [][]api.Rat, b []api.Rat) {
	t.Helper()
	checkCheck(t, m)
	checkReduce(t, m)
	checkRank(t, m)
	checkKernel(t, m)
	checkSolve(t, m, b)
	checkDet(t, m)
	checkTimes(t, m, m)
	checkSquares(t, m)
}
