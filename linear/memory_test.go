package linear_test

import (
	"slices"
	"testing"

	"straightedge/api"
	"straightedge/linear"
)

const mark = 0x5bcdef01

// roomyNumber returns a copy with marked spare capacity of its limbs.
func roomyNumber(r api.Rat) api.Rat {
	roomy := func(n api.Int) api.Int {
		return api.Int{Neg: n.Neg, Mag: append(slices.Clone(n.Mag), mark, mark)[:len(n.Mag)]}
	}
	return api.Rat{Num: roomy(r.Num), Den: roomy(r.Den)}
}

// spare is a number that is not valid, and that no function should see.
func spare() api.Rat {
	return api.Rat{Num: api.Int{Mag: []uint32{mark, 0}}, Den: api.Int{Neg: true, Mag: []uint32{mark}}}
}

// roomyList returns a copy with marked spare capacity, its own and that of the numbers.
func roomyList(l []api.Rat) []api.Rat {
	var copied []api.Rat
	for _, r := range l {
		copied = append(copied, roomyNumber(r))
	}
	return append(copied, spare(), spare())[:len(l)]
}

// roomyMatrix returns a copy with marked spare capacity, its own, that of the rows and that of the numbers.
func roomyMatrix(m [][]api.Rat) [][]api.Rat {
	var copied [][]api.Rat
	for _, line := range m {
		copied = append(copied, roomyList(line))
	}
	return append(copied, []api.Rat{spare()}, nil)[:len(m)]
}

// words returns all limbs of numbers, one list for each number's terms, also those of the spare capacity.
func words(numbers []api.Rat) [][]uint32 {
	var l [][]uint32
	for _, r := range numbers[:cap(numbers)] {
		l = append(l, r.Num.Mag[:cap(r.Num.Mag)], r.Den.Mag[:cap(r.Den.Mag)])
	}
	return l
}

// memory returns all limbs of a matrix.
func memory(m [][]api.Rat) [][]uint32 {
	var l [][]uint32
	for _, line := range m[:cap(m)] {
		l = append(l, words(line)...)
	}
	return l
}

// signs returns the signs of all numbers of a matrix, and the lengths of its rows, as numbers.
func signs(m [][]api.Rat) []int {
	var l []int
	for _, line := range m[:cap(m)] {
		l = append(l, len(line))
		for _, r := range line[:cap(line)] {
			l = append(l, len(r.Num.Mag), len(r.Den.Mag))
			if r.Num.Neg {
				l = append(l, -1)
			}
		}
	}
	return l
}

// copyWords copies limbs.
func copyWords(l [][]uint32) [][]uint32 {
	var copied [][]uint32
	for _, limbs := range l {
		copied = append(copied, slices.Clone(limbs))
	}
	return copied
}

// overlap overwrites all limbs, and reports whether two of the lists share memory.
func overlap(l [][]uint32) bool {
	for _, limbs := range l {
		for i := range limbs {
			if limbs[i] == mark {
				return true
			}
			limbs[i] = mark
		}
	}
	return false
}

// results returns what the functions return for a matrix, each as a list of rows; b contains the right side for Solve.
func results(m, b [][]api.Rat) [][][]api.Rat {
	form, _, _ := linear.Reduce(m)
	kernel, _ := linear.Kernel(m)
	product, _ := linear.Times(m, m)
	d, _ := linear.Det(m)
	weights, forms, negative, _ := linear.Squares(m)
	x, _, _ := linear.Solve(m, b[0])
	return [][][]api.Rat{form, kernel, product, {{d}}, slices.Concat(forms, [][]api.Rat{weights, negative}), {x}}
}

func TestMemory(t *testing.T) {
	for _, x := range []struct{ m, b string }{
		{"1 2; 2 5", "3 4"}, {"1 2; 2 1", "1 1"}, {"0 1; 1 0", "0 5"}, {"0 0; 0 0", "0 0"}, {"1 0; 0 1", "7 8"}, {"0 0; 0 3/7", "0 2"},
		{"1 2 3; 2 4 6; 3 6 9", "1 2 3"}, {"1 2 3; 2 4 6; 3 6 9", "1 2 4"}, {"0 2 4; 1 1 1", "1 2"}, {"5", "1"}, {"", ""}, {"1 0 0; 0 0 0; 0 0 -1", "1 0 0"},
		{"12345678901234567890 0; 0 98765432109876543210/7", "12345678901234567890 1"}, {"0 0 0", "0"}, {"0 0 5 0; 0 0 0 7; 0 0 0 0; 0 0 0 0", "5 7 0 0"},
	} {
		m, b := matrix(x.m), [][]api.Rat{list(x.b)}
		want := results(m, b)
		roomy, roomyB := roomyMatrix(m), roomyMatrix(b)
		before, beforeSigns := copyWords(memory(roomy)), signs(roomy)
		beforeB := copyWords(memory(roomyB))
		got := results(roomy, roomyB)
		if !slices.EqualFunc(memory(roomy), before, slices.Equal) || !slices.Equal(signs(roomy), beforeSigns) || !slices.EqualFunc(memory(roomyB), beforeB, slices.Equal) {
			t.Error("W6: an argument is modified:", x.m)
		}
		for _, limbs := range append(memory(roomy), memory(roomyB)...) {
			for i := range limbs {
				limbs[i] = mark
			}
		}
		for i := range got {
			if !slices.EqualFunc(got[i], want[i], equal) {
				t.Error("W6: a result shares memory with an argument:", i, x.m)
			}
			if overlap(memory(got[i])) {
				t.Error("W6: two slices of a result share memory:", i, x.m)
			}
		}
		if again := results(m, b); !slices.EqualFunc(again, want, equalMatrix) {
			t.Error("W6: two calls share memory:", x.m)
		}
	}
}

// TestResultRows changes the rows of a result, which must be none of the argument's.
func TestResultRows(t *testing.T) {
	m := matrix("1 0; 0 0")
	form := must[reduced](t)(reduce(m))
	product := must[[][]api.Rat](t)(linear.Times(m, identity(2)))
	for _, l := range [][][]api.Rat{form.rows, product} {
		for i := range l {
			if cap(l[i]) < 2 {
				t.Fatal("a row is too short:", l[i])
			}
			l[i][0], l[i][1] = ratio(5, 1), ratio(6, 1)
		}
	}
	if !equalMatrix(m, matrix("1 0; 0 0")) {
		t.Error("W6: a result has rows of the argument:", matrixText(m))
	}
	form.pivots[0] = 7
	if pivots := must[reduced](t)(reduce(m)).pivots; !slices.Equal(pivots, []int{0}) {
		t.Error("W6: two calls share their pivot columns:", pivots)
	}
}

// TestOneRow passes the same memory as several rows, and as a row and the right side.
func TestOneRow(t *testing.T) {
	line := list("3 6 -1")
	m := [][]api.Rat{line, line, line}
	checkAll(t, m, line)
	checkTimes(t, m, m)
	long := list("1 2 3 4 5")
	m = [][]api.Rat{long[:3], long[1:4], long[2:]}
	checkAll(t, m, long[1:4])
	if !equal(line, list("3 6 -1")) || !equal(long, list("1 2 3 4 5")) {
		t.Error("W6: a row is modified:", text(line), text(long))
	}
}
