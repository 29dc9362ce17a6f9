package modular_test

import (
	"slices"
	"testing"

	"straightedge/api"
	"straightedge/modular"
	"straightedge/rational"
)

const mark = 0x5bcdef01

// roomyMatrix returns a copy with marked spare capacity, of its own and of its rows.
func roomyMatrix(m [][]int) [][]int {
	var l [][]int
	for _, row := range m {
		l = append(l, append(slices.Clone(row), mark, mark)[:len(row)])
	}
	return append(l, []int{mark}, nil)[:len(l)]
}

// contents returns all elements, those of the spare capacity too.
func contents(m [][]int) [][]int {
	var l [][]int
	for _, row := range m[:cap(m)] {
		l = append(l, slices.Clone(row[:cap(row)]))
	}
	return l
}

// spoil changes all elements, those of the spare capacity too.
func spoil(m [][]int) {
	for _, row := range m[:cap(m)] {
		for i := range row[:cap(row)] {
			row[:cap(row)][i] = mark
		}
	}
}

func TestMatrixMemory(t *testing.T) {
	for _, m := range [][][]int{
		{{1, 2, 3}, {2, 4, 6}},
		{{0, 0, 1, -9}, {0, 3, 1 << 62, 5}, {0, 3, 2, 1}},
		{{-1, -2}, {0, 0}, {0, 7}},
		{{0, 0}, {0, 0}},
		{{}, {}},
		nil,
	} {
		roomy := roomyMatrix(m)
		before := contents(roomy)
		rank := must[int](t)(modular.Rank(roomy, 101))
		kernel := must[[][]int](t)(modular.Kernel(roomy, 101))
		if !equalMatrix(contents(roomy), before) {
			t.Error("W6: the matrix is modified:", m)
		}
		want := contents(kernel)
		spoil(roomy)
		if !equalMatrix(contents(kernel), want) {
			t.Error("W6: the kernel shares memory with the matrix:", m)
		}
		for i, v := range kernel {
			spoil([][]int{v})
			for _, w := range kernel[i+1:] {
				if slices.Contains(w[:cap(w)], mark) {
					t.Error("W6: two vectors of the kernel share memory:", m)
				}
			}
		}
		checkMatrix(t, m, 101, rank, want[:len(kernel)])
	}
}

// TestOneRow passes the same memory as several rows.
func TestOneRow(t *testing.T) {
	row := []int{3, 6, -1}
	checkMatrix(t, [][]int{row, row, row}, 7, 1, [][]int{{5, 1, 0}, {5, 0, 1}})
	long := []int{1, 2, 3, 4, 5}
	checkMatrix(t, [][]int{long[:3], long[1:4], long[2:]}, 7, 2, [][]int{{1, 5, 1}})
	if !slices.Equal(row, []int{3, 6, -1}) || !slices.Equal(long, []int{1, 2, 3, 4, 5}) {
		t.Error("W6: a row is modified:", row, long)
	}
}

// words returns the memory of a number, with its spare capacity.
func words(r api.Rat) [][]uint32 {
	return [][]uint32{r.Num.Mag[:cap(r.Num.Mag)], r.Den.Mag[:cap(r.Den.Mag)]}
}

func TestRatMemory(t *testing.T) {
	for _, s := range []string{"0", "-1/2", "123456789012345678901234567890/7", "-99999999999999999999/100000000000000000000"} {
		r, _ := rational.Parse(s)
		r.Num.Mag = append(r.Num.Mag, mark, mark)[:len(r.Num.Mag)]
		r.Den.Mag = append(r.Den.Mag, mark, mark)[:len(r.Den.Mag)]
		before := [][]uint32{slices.Clone(words(r)[0]), slices.Clone(words(r)[1])}
		for _, p := range testPrimes() {
			modular.Rat(r, p)
		}
		if !slices.EqualFunc(words(r), before, slices.Equal) {
			t.Error("W6: Rat modifies", s)
		}
	}
}

func TestLiftMemory(t *testing.T) {
	for _, a := range []int{0, 1, 51, -51, 34} {
		r, _, _ := modular.Lift(a, 101)
		want := text(r)
		again, _, _ := modular.Lift(a, 101)
		limbs := words(r)
		for i, l := range limbs {
			for j := range l {
				l[j] = mark
			}
			if i == 0 && slices.Contains(limbs[1], mark) {
				t.Error("W6: two slices of Lift have the same memory:", a)
			}
		}
		if text(again) != want {
			t.Error("W6: two results of Lift have the same memory:", a)
		}
		checkLift(t, a, 101, wantLift(t, a, 101))
	}
}
