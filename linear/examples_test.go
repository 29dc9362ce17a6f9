package linear_test

import (
	"slices"
	"testing"

	"straightedge/api"
	"straightedge/linear"
)

// TestExamples checks the chapter's examples.
func TestExamples(t *testing.T) {
	m := matrix("0 2 4; 1 1 1")
	form := must[reduced](t)(reduce(m))
	if !equalMatrix(form.rows, matrix("1 0 -1; 0 1 2")) || !slices.Equal(form.pivots, []int{0, 1}) {
		t.Error("P7.2: Reduce:", matrixText(form.rows), form.pivots)
	}
	if kernel := must[[][]api.Rat](t)(linear.Kernel(m)); !equalMatrix(kernel, matrix("1 -2 1")) {
		t.Error("P7.3: Kernel:", matrixText(kernel))
	}
	if rank := must[int](t)(linear.Rank(m)); rank != 2 {
		t.Error("P7.3: Rank:", rank)
	}
	if s := must[solved](t)(solve(matrix("1 1; 1 -1"), list("3 1"))); !s.is || !equal(s.x, list("2 1")) {
		t.Error("P7.4: Solve:", text(s.x), s.is)
	}
	if s := must[solved](t)(solve(matrix("1 1; 2 2"), list("1 3"))); s.is || len(s.x) > 0 {
		t.Error("P7.4: Solve without a solution:", text(s.x), s.is)
	}
	for s, want := range map[string]int{"0 1; 1 0": -1, "1 2; 3 4": -2, "": 1, "0": 0, "7": 7, "1 2; 2 4": 0, "0 0 2; 0 3 0; 5 0 0": -30, "0 1 0; 0 0 1; 1 0 0": 1} {
		if d := must[api.Rat](t)(linear.Det(matrix(s))); !equalRat(d, ratio(want, 1)) {
			t.Error("P7.5: Det of", s, "is", numberText(d), "and not", want)
		}
	}
	if p := must[[][]api.Rat](t)(linear.Times(matrix("1 2"), matrix("3; 4"))); !equalMatrix(p, matrix("11")) {
		t.Error("P7.6: Times:", matrixText(p))
	}
	if p := must[[][]api.Rat](t)(linear.Times(matrix("3; 4"), matrix("1 2"))); !equalMatrix(p, matrix("3 6; 4 8")) {
		t.Error("P7.6: Times:", matrixText(p))
	}
}

func TestExamplesOfSquares(t *testing.T) {
	for s, want := range map[string]sum{
		"1 2; 2 5":               {weights: list("1 1"), forms: matrix("1 2; 0 1")},
		"1 2; 2 1":               {negative: list("-2 1")},
		"0 1; 1 0":               {negative: list("-1/2 1")},
		"":                       {},
		"0 0; 0 0":               {},
		"3":                      {weights: list("3"), forms: matrix("1")},
		"-3":                     {negative: list("1")},
		"0 0; 0 -3":              {negative: list("0 1")},
		"0 0; 0 2":               {weights: list("2"), forms: matrix("0 1")},
		"2 1 0; 1 1/2 0; 0 0 1":  {weights: list("2 1"), forms: matrix("1 1/2 0; 0 0 1")},
		"0 0 5; 0 1 0; 5 0 -7":   {negative: list("3/5 0 1")},
		"1 1 1; 1 1 1; 1 1 0":    {negative: list("-1 0 1")},
		"1 1 0; 1 1 2; 0 2 3":    {negative: list("1 -1 1")},
		"0 0 0; 0 4 -2; 0 -2 1":  {weights: list("4"), forms: matrix("0 1 -1/2")},
		"4 2 -6; 2 5 1; -6 1 14": {weights: list("4 4 1"), forms: matrix("1 1/2 -3/2; 0 1 1; 0 0 1")},
	} {
		if got := must[sum](t)(squares(matrix(s))); !equalSum(got, want) {
			t.Error("P7.7: Squares of", s, "is", text(got.weights), matrixText(got.forms), text(got.negative))
		}
	}
}
