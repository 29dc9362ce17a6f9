package linear_test

import (
	"math/big"
	"math/rand"
	"slices"
	"strings"
	"testing"

	"straightedge/api"
	"straightedge/integer"
	"straightedge/linear"
	"straightedge/rational"
)

const limbBits = 32 * api.MaxLimbs

// fromRat returns the rational number of a number.
func fromRat(x *big.Rat) api.Rat {
	r, e := rational.Parse(x.RatString())
	if e != api.OK {
		panic("no number: " + x.RatString())
	}
	return r
}

func toRat(r api.Rat) *big.Rat {
	x, ok := new(big.Rat).SetString(numberText(r))
	if !ok {
		panic("no number: " + numberText(r))
	}
	return x
}

// ratio returns n / d.
func ratio(n, d int) api.Rat {
	r, _ := rational.Of(n, d)
	return r
}

// wide returns 2^n + plus.
func wide(n int, plus int64) *big.Rat {
	x := new(big.Int).Lsh(big.NewInt(1), uint(n))
	return new(big.Rat).SetInt(x.Add(x, big.NewInt(plus)))
}

func minus(x *big.Rat) *big.Rat { return new(big.Rat).Neg(x) }

func inverse(x *big.Rat) *big.Rat { return new(big.Rat).Inv(x) }

func times(x, y *big.Rat) *big.Rat { return new(big.Rat).Mul(x, y) }

// row returns a list of numbers.
func row(l ...*big.Rat) []api.Rat {
	var numbers []api.Rat
	for _, x := range l {
		numbers = append(numbers, fromRat(x))
	}
	return numbers
}

// list is row for texts that are separated by blanks.
func list(s string) []api.Rat {
	var numbers []api.Rat
	for _, word := range strings.Fields(s) {
		x, ok := new(big.Rat).SetString(word)
		if !ok {
			panic("no number: " + word)
		}
		numbers = append(numbers, fromRat(x))
	}
	return numbers
}

// matrix returns a matrix of lists that are separated by semicolons.
func matrix(s string) [][]api.Rat {
	if s == "" {
		return nil
	}
	var m [][]api.Rat
	for _, line := range strings.Split(s, ";") {
		m = append(m, list(line))
	}
	return m
}

// rectangle returns a matrix of one number.
func rectangle(rows, columns int, r api.Rat) [][]api.Rat {
	var m [][]api.Rat
	for range rows {
		m = append(m, slices.Repeat([]api.Rat{r}, columns))
	}
	return m
}

// identity returns the identity matrix.
func identity(n int) [][]api.Rat {
	m := rectangle(n, n, ratio(0, 1))
	for i := range m {
		m[i][i] = ratio(1, 1)
	}
	return m
}

// transpose returns the matrix with rows and columns exchanged.
func transpose(m [][]api.Rat) [][]api.Rat {
	var l [][]api.Rat
	for j := range width(m) {
		var line []api.Rat
		for i := range m {
			line = append(line, m[i][j])
		}
		l = append(l, line)
	}
	return l
}

// width returns the number of columns.
func width(m [][]api.Rat) int {
	if len(m) == 0 {
		return 0
	}
	return len(m[0])
}

// clone copies the rows, but not the memory of the numbers.
func clone(m [][]api.Rat) [][]api.Rat {
	var l [][]api.Rat
	for _, line := range m {
		l = append(l, slices.Clone(line))
	}
	return l
}

func numberText(r api.Rat) string {
	s, e := rational.Text(r)
	if e != api.OK {
		return "(no number)"
	}
	return s
}

// text returns a list for a message, without the digits in the middle of long numbers.
func text(l []api.Rat) string {
	var words []string
	for _, r := range l {
		word := numberText(r)
		if len(word) > 60 {
			word = word[:25] + ".." + word[len(word)-25:]
		}
		words = append(words, word)
	}
	return "(" + strings.Join(words, " ") + ")"
}

func matrixText(m [][]api.Rat) string {
	var lines []string
	for _, line := range m {
		lines = append(lines, text(line))
	}
	return "[" + strings.Join(lines, " ") + "]"
}

func equalInt(a, b api.Int) bool { return a.Neg == b.Neg && slices.Equal(a.Mag, b.Mag) }

func equalRat(a, b api.Rat) bool { return equalInt(a.Num, b.Num) && equalInt(a.Den, b.Den) }

func equal(a, b []api.Rat) bool { return slices.EqualFunc(a, b, equalRat) }

func equalMatrix(a, b [][]api.Rat) bool { return slices.EqualFunc(a, b, equal) }

// reduced is what Reduce returns.
type reduced struct {
	rows   [][]api.Rat
	pivots []int
}

func equalReduced(a, b reduced) bool {
	return equalMatrix(a.rows, b.rows) && slices.Equal(a.pivots, b.pivots)
}

func reduce(m [][]api.Rat) (reduced, api.Errno) {
	rows, pivots, e := linear.Reduce(m)
	return reduced{rows, pivots}, e
}

// solved is what Solve returns.
type solved struct {
	x  []api.Rat
	is bool
}

func equalSolved(a, b solved) bool { return a.is == b.is && equal(a.x, b.x) }

func solve(m [][]api.Rat, b []api.Rat) (solved, api.Errno) {
	x, is, e := linear.Solve(m, b)
	return solved{x, is}, e
}

// sum is what Squares returns.
type sum struct {
	weights  []api.Rat
	forms    [][]api.Rat
	negative []api.Rat
}

func equalSum(a, b sum) bool {
	return equal(a.weights, b.weights) && equalMatrix(a.forms, b.forms) && equal(a.negative, b.negative)
}

func squares(m [][]api.Rat) (sum, api.Errno) {
	weights, forms, negative, e := linear.Squares(m)
	return sum{weights, forms, negative}, e
}

// must returns a function that fails the test at an error.
func must[T any](t *testing.T) func(v T, e api.Errno) T {
	return func(v T, e api.Errno) T {
		t.Helper()
		if e != api.OK {
			t.Fatal("error", e)
		}
		return v
	}
}

// invalidNumbers returns rational numbers that are not valid.
func invalidNumbers() []api.Rat {
	one, two := integer.Of(1), integer.Of(2)
	long := api.Int{Mag: make([]uint32, api.MaxLimbs+1)}
	long.Mag[api.MaxLimbs] = 1
	return []api.Rat{
		{},
		{Num: one},
		{Num: two, Den: two},
		{Num: integer.Of(0), Den: two},
		{Num: one, Den: integer.Of(-2)},
		{Num: long, Den: one},
		{Num: one, Den: long},
		{Num: api.Int{Neg: true}, Den: one},
		{Num: api.Int{Mag: []uint32{1, 0}}, Den: one},
	}
}

// drawNumber returns a number whose terms have at most that many bits; many are 0, small, or integers.
func drawNumber(source *rand.Rand, bits int) api.Rat {
	limit := new(big.Int).Lsh(big.NewInt(1), uint(bits))
	num, den := new(big.Int).Rand(source, limit), new(big.Int).Rand(source, limit)
	if source.Intn(2) == 0 {
		num.Neg(num)
	}
	switch {
	case source.Intn(3) == 0:
		return ratio(source.Intn(5)-2, 1)
	case source.Intn(2) == 0 || den.Sign() == 0:
		den.SetInt64(1)
	}
	return fromRat(new(big.Rat).SetFrac(num, den))
}

// drawList returns numbers; in some lists, most of them are 0.
func drawList(source *rand.Rand, n, bits int) []api.Rat {
	l := slices.Repeat([]api.Rat{ratio(0, 1)}, n)
	sparse := source.Intn(3) == 0
	for i := range l {
		if !sparse || source.Intn(3) == 0 {
			l[i] = drawNumber(source, bits)
		}
	}
	return l
}

// drawMatrix returns a matrix; some rows and columns are copies of others, or 0.
func drawMatrix(source *rand.Rand, rows, columns, bits int) [][]api.Rat {
	var m [][]api.Rat
	for i := range rows {
		line := drawList(source, columns, bits)
		if i > 0 && source.Intn(5) == 0 {
			line = slices.Clone(m[source.Intn(i)])
		}
		m = append(m, line)
	}
	if columns > 1 && source.Intn(3) == 0 {
		from, to := source.Intn(columns), source.Intn(columns)
		for i := range m {
			m[i][to] = m[i][from]
		}
	}
	if columns > 0 && source.Intn(3) == 0 {
		at := source.Intn(columns)
		for i := range m {
			m[i][at] = ratio(0, 1)
		}
	}
	return m
}

// drawSymmetric returns a symmetric matrix; most of them are close to being a sum of squares.
func drawSymmetric(source *rand.Rand, n, bits int) [][]api.Rat {
	if source.Intn(4) == 0 {
		m := drawMatrix(source, n, n, bits)
		for i := range m {
			for j := range i {
				m[i][j] = m[j][i]
			}
		}
		return m
	}
	exact := drawSum(source, n, bits/3)
	if n > 0 && source.Intn(3) == 0 {
		i := source.Intn(n)
		exact[i][i].Add(exact[i][i], big.NewRat(int64(source.Intn(3)-1), 9))
	}
	var m [][]api.Rat
	for _, line := range exact {
		for _, x := range line {
			if x.Num().BitLen() > limbBits || x.Denom().BitLen() > limbBits {
				return drawSymmetric(source, n, bits/2)
			}
		}
		m = append(m, row(line...))
	}
	return m
}

// drawSum returns the matrix of a sum of at most n weighted squares of forms.
func drawSum(source *rand.Rand, n, bits int) [][]*big.Rat {
	m := make([][]*big.Rat, n)
	for i := range m {
		for range n {
			m[i] = append(m[i], new(big.Rat))
		}
	}
	for range source.Intn(n + 1) {
		weight := big.NewRat(int64(source.Intn(9)), 3)
		l := drawList(source, n, bits)
		for i := range l {
			for j := range l {
				m[i][j].Add(m[i][j], times(weight, times(toRat(l[i]), toRat(l[j]))))
			}
		}
	}
	return m
}
