package linear_test

import (
	"math/rand"
	"testing"

	"straightedge/api"
	"straightedge/linear"
)

// failures returns the errors of all functions for a matrix, as their only one or as one of two, and whether there is a result beside an error.
func failures(m [][]api.Rat) (errors map[string]api.Errno, beside bool) {
	column := rectangle(len(m), 1, ratio(1, 1))
	var b []api.Rat
	for _, line := range column {
		b = append(b, line...)
	}
	form, reduceError := reduce(m)
	rank, rankError := linear.Rank(m)
	kernel, kernelError := linear.Kernel(m)
	s, solveError := solve(m, b)
	d, detError := linear.Det(m)
	product, timesError := linear.Times(m, nil)
	_, secondError := linear.Times(nil, m)
	q, squaresError := squares(m)
	errors = map[string]api.Errno{
		"Check": linear.Check(m), "Reduce": reduceError, "Rank": rankError, "Kernel": kernelError, "Solve": solveError,
		"Det": detError, "Times, first": timesError, "Times, second": secondError, "Squares": squaresError,
	}
	beside = !equalReduced(form, reduced{}) || rank != 0 || len(kernel) > 0 || !equalSolved(s, solved{}) || !equalRat(d, api.Rat{}) || len(product) > 0 || !equalSum(q, sum{})
	return errors, beside
}

// checkFailures checks that all functions return an error, and nothing beside it.
func checkFailures(t *testing.T, m [][]api.Rat, want api.Errno, what string) {
	t.Helper()
	errors, beside := failures(m)
	for name, e := range errors {
		if e != want {
			t.Error("P7.1:", name, "has error", e, "and not", want, "for", what)
		}
	}
	if beside {
		t.Error("W3: a result beside an error for", what)
	}
}

func TestInvalidMatrices(t *testing.T) {
	zero := ratio(0, 1)
	most, more := api.MaxSide, api.MaxSide+1
	for i, r := range invalidNumbers() {
		m := matrix("1 2; 3 4")
		m[i%2][i/2%2] = r
		checkFailures(t, m, api.ErrArg, "an invalid number")
		checkFailures(t, [][]api.Rat{{r}}, api.ErrArg, "a single invalid number")
		large := rectangle(most, most, zero)
		large[most-1][most-1] = r
		checkFailures(t, large, api.ErrArg, "a last number that is invalid")
		checkFailures(t, rectangle(more, 1, r), api.ErrTooBig, "invalid numbers in too many rows")
		checkFailures(t, rectangle(1, more, r), api.ErrTooBig, "invalid numbers in a row that is too long")
		checkFailures(t, [][]api.Rat{{r}, {zero, r}, rectangle(1, more, zero)[0]}, api.ErrTooBig, "a last row that is too long")
	}
	for _, s := range []string{"1; 1 2", "1 2; 1", "1 2; 3 4; 5", "; 1", "1 2;", "1 2;;3 4"} {
		checkFailures(t, matrix(s), api.ErrArg, "rows of different lengths: "+s)
	}
	checkFailures(t, append(rectangle(most-1, most, zero), nil), api.ErrArg, "a last row without elements")
	checkFailures(t, make([][]api.Rat, more), api.ErrTooBig, "too many rows without elements")
	checkFailures(t, append(rectangle(most, 2, zero), list("1")), api.ErrTooBig, "too many rows of different lengths")
	checkFailures(t, rectangle(more, more, zero), api.ErrTooBig, "too many rows and columns")
	checkFailures(t, append(matrix("1; 1 2"), rectangle(1, more, zero)...), api.ErrTooBig, "rows of different lengths, the last one too long")
}

func TestCheck(t *testing.T) {
	most := api.MaxSide
	for _, m := range [][][]api.Rat{
		nil, {}, {{}}, {nil, {}}, make([][]api.Rat, most), matrix("0"), rectangle(most, most, ratio(-1, 2)),
		rectangle(1, most, ratio(1, 1)), rectangle(most, 1, ratio(1, 1)), {row(wide(limbBits, -1), inverse(wide(limbBits, -1)))},
	} {
		if e := linear.Check(m); e != api.OK {
			t.Error("P7.1: error", e, "for a matrix of", len(m), "rows and", width(m), "columns")
		}
	}
}

// TestOrderOfMatrices checks that the error of the first matrix comes first.
func TestOrderOfMatrices(t *testing.T) {
	invalid := [][]api.Rat{{{}}}
	large := make([][]api.Rat, api.MaxSide+1)
	fit, unfit := matrix("1"), matrix("1; 2")
	for _, x := range []struct {
		a, b [][]api.Rat
		want api.Errno
	}{
		{invalid, large, api.ErrArg}, {large, invalid, api.ErrTooBig}, {fit, invalid, api.ErrArg}, {fit, large, api.ErrTooBig},
		{unfit, large, api.ErrTooBig}, {nil, large, api.ErrTooBig}, {fit, unfit, api.ErrArg}, {unfit, unfit, api.ErrArg}, {unfit, fit, api.OK},
		{nil, fit, api.ErrArg}, {fit, nil, api.ErrArg}, {nil, nil, api.OK}, {nil, [][]api.Rat{{}}, api.ErrArg},
	} {
		got, e := linear.Times(x.a, x.b)
		if e != x.want || e != api.OK && len(got) > 0 {
			t.Error("P7.6: error", e, "and not", x.want, "for", matrixText(x.a), matrixText(x.b))
		}
	}
}

func TestOrderOfSolve(t *testing.T) {
	most := api.MaxSide
	wideMatrix := rectangle(2, most, ratio(1, 1))
	invalid := []api.Rat{ratio(1, 1), {}}
	for _, x := range []struct {
		m    [][]api.Rat
		b    []api.Rat
		want api.Errno
	}{
		{wideMatrix, list("1 2"), api.ErrTooBig},
		{wideMatrix, list("1"), api.ErrArg},
		{wideMatrix, list("1 2 3"), api.ErrArg},
		{wideMatrix, nil, api.ErrArg},
		{wideMatrix, invalid, api.ErrArg},
		{rectangle(2, most-1, ratio(1, 1)), list("1 2"), api.OK},
		{rectangle(2, most-1, ratio(1, 1)), invalid, api.ErrArg},
		{rectangle(2, most+1, ratio(1, 1)), invalid, api.ErrTooBig},
		{rectangle(most+1, 1, ratio(1, 1)), invalid, api.ErrTooBig},
		{[][]api.Rat{{{}}, {{}}}, list("1"), api.ErrArg},
		{matrix("1"), rectangle(1, most+1, ratio(1, 1))[0], api.ErrArg},
		{nil, list("1"), api.ErrArg},
		{nil, []api.Rat{{}}, api.ErrArg},
		{[][]api.Rat{{}}, nil, api.ErrArg},
	} {
		got, e := solve(x.m, x.b)
		if e != x.want || !equalSolved(got, solved{}) {
			t.Error("P7.4: error", e, "and not", x.want, "for", len(x.m), "rows and", text(x.b))
		}
	}
}

func TestShapes(t *testing.T) {
	for _, m := range [][][]api.Rat{{{}}, {nil, {}, nil}, matrix("1 2"), matrix("1; 2"), rectangle(2, 3, ratio(0, 1)), rectangle(api.MaxSide, api.MaxSide-1, ratio(0, 1))} {
		if d, e := linear.Det(m); e != api.ErrArg || !equalRat(d, api.Rat{}) {
			t.Error("P7.5: error", e, "for", matrixText(m))
		}
		if q, e := squares(m); e != api.ErrArg || !equalSum(q, sum{}) {
			t.Error("P7.7: error", e, "for", matrixText(m))
		}
	}
	for _, s := range []string{"1 2; 3 4", "0 0; 1 0", "1 2 3; 2 4 5; 3 5.5 6", "1 -1; 1 1", "1 1/2; 2 1", "1 1/2; 1/3 1", "-1 2; 3 4", "0 0 0; 0 0 1; 0 -1 0"} {
		if q, e := squares(matrix(s)); e != api.ErrArg || !equalSum(q, sum{}) {
			t.Error("P7.7: error", e, "for", s)
		}
	}
	// The last element may be the one that makes a matrix not symmetric, also where its form is negative before.
	m := rectangle(api.MaxSide, api.MaxSide, ratio(-1, 1))
	m[api.MaxSide-1][api.MaxSide-2] = ratio(1, 1)
	if q, e := squares(m); e != api.ErrArg || !equalSum(q, sum{}) {
		t.Error("P7.7: error", e, "for a large matrix")
	}
}

// TestNoElements checks matrices without rows or without columns.
func TestNoElements(t *testing.T) {
	checkAll(t, nil, nil)
	checkAll(t, [][]api.Rat{}, []api.Rat{})
	checkAll(t, [][]api.Rat{{}}, list("0"))
	checkAll(t, [][]api.Rat{{}, nil, {}}, list("0 0 0"))
	checkAll(t, [][]api.Rat{{}, nil, {}}, list("0 0 1"))
	if s := must[solved](t)(solve(nil, nil)); !s.is || len(s.x) > 0 {
		t.Error("P7.4: no rows:", s)
	}
	if s := must[solved](t)(solve([][]api.Rat{{}, {}}, list("0 0"))); !s.is || len(s.x) > 0 {
		t.Error("P7.4: no columns:", s)
	}
	if s := must[solved](t)(solve([][]api.Rat{{}, {}}, list("0 2"))); s.is {
		t.Error("P7.4: no columns, and no solution:", s)
	}
	empty := [][]api.Rat{{}, {}}
	if form := must[reduced](t)(reduce(empty)); !equalMatrix(form.rows, empty) || len(form.pivots) > 0 {
		t.Error("P7.2: no columns:", form)
	}
	if p := must[[][]api.Rat](t)(linear.Times(empty, nil)); !equalMatrix(p, empty) {
		t.Error("P7.6: no columns:", p)
	}
	if p := must[[][]api.Rat](t)(linear.Times(matrix("1 2; 3 4; 5 6"), empty)); !equalMatrix(p, [][]api.Rat{{}, {}, {}}) {
		t.Error("P7.6: no columns of the second matrix:", p)
	}
}

// TestContracts compares with the contracts for matrices of all small shapes, where nothing is too big.
func TestContracts(t *testing.T) {
	source := rand.New(rand.NewSource(71))
	for rows := range 7 {
		for columns := range 7 {
			for range 12 {
				m := drawMatrix(source, rows, columns, 1+source.Intn(20))
				checkAll(t, m, drawList(source, len(m), 3))
				// A right side for which there is a solution.
				x := transpose([][]api.Rat{drawList(source, width(m), 3)})
				var b []api.Rat
				for _, line := range must[[][]api.Rat](t)(linear.Times(m, x)) {
					b = append(b, line...)
				}
				if len(b) == len(m) {
					checkSolve(t, m, b)
				}
				checkTimes(t, m, drawMatrix(source, width(m), source.Intn(5), 9))
				checkTimes(t, m, drawMatrix(source, rows, columns, 9))
			}
		}
	}
	for i := range 500 {
		checkSquares(t, drawSymmetric(source, i%8, 9))
	}
}

// TestLargeMatrices compares with the contracts for matrices of the greatest size.
func TestLargeMatrices(t *testing.T) {
	source := rand.New(rand.NewSource(72))
	most := api.MaxSide
	m := rectangle(most, most, ratio(0, 1))
	for i := range m {
		for range 3 {
			m[i][source.Intn(most)] = ratio(source.Intn(19)-9, 1+source.Intn(2))
		}
	}
	checkAll(t, m, rectangle(1, most, ratio(1, 1))[0])
	checkSquares(t, must[[][]api.Rat](t)(linear.Times(m, transpose(m))))
	for i := range m {
		m[i] = m[i][1:]
	}
	checkSolve(t, m, drawList(source, most, 4))
	checkAll(t, identity(most), nil)
	checkAll(t, rectangle(most, most, ratio(0, 1)), nil)
	checkAll(t, rectangle(most, most, ratio(1, 3)), nil)
}
