package multipoly_test

import (
	"math/rand"
	"slices"
	"strconv"
	"strings"
	"testing"

	"straightedge/api"
	"straightedge/multipoly"
)

// outcomes counts the errors of a function.
type outcomes map[string]map[api.Errno]int

func (o outcomes) add(what string, e api.Errno) {
	if o[what] == nil {
		o[what] = map[api.Errno]int{}
	}
	o[what][e]++
}

// bothSides checks that each function was tried often enough on both sides of the limit.
func (o outcomes) bothSides(t *testing.T, least int) {
	t.Helper()
	for what, counts := range o {
		if counts[api.OK] < least || counts[api.ErrTooBig] < least {
			t.Error("too few calls on one side of the limit:", what, counts)
		}
	}
}

// TestLongCoefficients draws polynomials whose results are close to the limit of integers.
func TestLongCoefficients(t *testing.T) {
	source := rand.New(rand.NewSource(82))
	o := outcomes{}
	for range 1500 {
		s := shape{terms: 1 + source.Intn(5), vars: []int{0, 1 + source.Intn(2)}, exponent: 1 + source.Intn(2)}
		s.bits = maxBits - source.Intn(2)
		p, q := s.draw(source), s.draw(source)
		o.add("Add", checkAdd(t, p, q))
		o.add("Sub", checkSub(t, p, q))
		checkPrimitive(t, p)
		s.bits = maxBits/2 + source.Intn(3)
		p, q = s.draw(source), s.draw(source)
		o.add("Mul", checkMul(t, p, q))
		s.exponent, s.bits = 3, 100+source.Intn(1500)
		p = s.draw(source)
		s.exponent, s.bits = 1, 1+source.Intn(1500)
		q = s.draw(source)
		if degree(q, 0) > 0 {
			o.add("PseudoDiv", checkDiv(t, p, q, 0))
		}
		s.exponent, s.bits = 3, 1+source.Intn(1500)
		o.add("Eval", checkEval(t, s.draw(source), []api.Rat{drawRat(source, 1+source.Intn(800)), drawRat(source, 300), drawRat(source, 300)}))
	}
	o.bothSides(t, 150)
}

// TestGreatExponents draws polynomials whose products are close to the limit of exponents.
func TestGreatExponents(t *testing.T) {
	source := rand.New(rand.NewSource(83))
	o := outcomes{}
	for range 2000 {
		s := shape{terms: 1 + source.Intn(3), vars: [][]int{{0}, {31}, {0, 1}, {5, 31}}[source.Intn(4)], exponent: 30 + source.Intn(20), bits: 2}
		o.add("Mul", checkMul(t, s.draw(source), s.draw(source)))
		q := poly("x0*x" + strconv.Itoa(1+source.Intn(3)) + "^" + strconv.Itoa(1+source.Intn(14)) + " + x2 + 1")
		o.add("PseudoDiv", checkDiv(t, poly("x0^"+strconv.Itoa(5+source.Intn(6))), q, 0))
	}
	o.bothSides(t, 100)
}

// check compares an error with the expected one.
func check(t *testing.T, what string, e, want api.Errno) {
	t.Helper()
	if e != want {
		t.Error(what, "has error", e, "and not", want)
	}
}

// TestLimitsOfSums has sums of which one coefficient decides.
func TestLimitsOfSums(t *testing.T) {
	greatest := "2^4095*x1 + 2^4095*x1 - x1"
	for _, x := range []struct {
		p, q     string
		add, sub api.Errno
	}{
		{greatest, "x1", api.ErrTooBig, api.OK},
		{greatest, "-x1", api.OK, api.ErrTooBig},
		{greatest + " + x0 + 1", "x0 + 1", api.OK, api.OK},
		{"2^4095*x0 + x1", "2^4095*x0 - x1", api.ErrTooBig, api.OK},
		{"2^4095", "-2^4095", api.OK, api.ErrTooBig},
		{"-2^4095*x31", "2^4095*x31", api.OK, api.ErrTooBig},
	} {
		p, q := poly(x.p), poly(x.q)
		check(t, "P8.2: Add of "+x.p+" and "+x.q, checkAdd(t, p, q), x.add)
		check(t, "P8.2: Sub of "+x.p+" and "+x.q, checkSub(t, p, q), x.sub)
	}
}

// TestLimitsOfProducts has products for which the order of the additions decides, or a summand that is too big.
func TestLimitsOfProducts(t *testing.T) {
	cubic := "2^2048 + 2^2048*x0 + 2^2048*x0^3"
	for _, x := range []struct {
		p, q string
		want api.Errno
	}{
		{"2^2048", "2^2047", api.OK}, {"2^2048", "2^2048", api.ErrTooBig}, {"2^2048*x0", "-2^2048*x1", api.ErrTooBig},
		// Three products contribute to x0^3 alone, which are 2^4095 times 1, 1, -1 and so on in the order of the terms of p.
		{cubic, "-2^2047 + 2^2047*x0^2 + 2^2047*x0^3", api.ErrTooBig},
		{cubic, "2^2047 - 2^2047*x0^2 + 2^2047*x0^3", api.OK},
		{cubic, "2^2047 + 2^2047*x0^2 - 2^2047*x0^3", api.OK},
		{cubic, "2^2047 - 2^2047*x0^2 - 2^2047*x0^3", api.ErrTooBig},
		{cubic, "-2^2047 + 2^2047*x0^2 - 2^2047*x0^3", api.OK},
		{cubic, "-2^2047 - 2^2047*x0^2 + 2^2047*x0^3", api.OK},
		// Both products are too big, and their sum would be 0.
		{"2^2048 + 2^2048*x0", "2^2048 - 2^2048*x0", api.ErrTooBig},
		{"x0^40", "x0^24", api.OK}, {"x0^40", "x0^25", api.ErrTooBig}, {"x0^64*x31^64", "x1^64", api.OK}, {"x0^64*x31^64", "x31", api.ErrTooBig},
		{"x0^64 + 1", "x1 + x0", api.ErrTooBig}, {"0", "x0^64", api.OK}, {"x0^64", "x0^64", api.ErrTooBig}, {"x0^64", "0", api.OK},
	} {
		check(t, "P8.3: Mul of "+x.p+" and "+x.q, checkMul(t, poly(x.p), poly(x.q)), x.want)
	}
}

// grid returns the sum of the products of a power of v less than n and one of w less than m.
func grid(v, n, w, m int) []api.Term {
	l := model{}
	for i := range n {
		for j := range m {
			var at powers
			at[v] += i
			at[w] += j
			l[at] = toInt(one().Coef)
		}
	}
	return fromModel(l)
}

// TestNumberOfTerms has results with as many terms as possible, and with more.
func TestNumberOfTerms(t *testing.T) {
	full := many(api.MaxTerms)
	check(t, "P8.2: Add of 2048 terms and the same ones", checkAdd(t, full, full), api.OK)
	check(t, "P8.2: Add of 2048 terms and another one", checkAdd(t, full, poly("x31")), api.ErrTooBig)
	check(t, "P8.2: Sub of 2048 terms and another one", checkSub(t, full, poly("x31")), api.ErrTooBig)
	check(t, "P8.2: Sub of one term and 2048 other ones", checkSub(t, poly("x31"), full), api.ErrTooBig)
	check(t, "P8.2: Sub of 2048 terms and the same ones", checkSub(t, full, full), api.OK)
	check(t, "P8.2: Sub of 2048 terms and two, one of them new", checkSub(t, full, poly("x31 + x0")), api.OK)
	check(t, "P8.2: Add of 2047 terms and another one", checkAdd(t, full[1:], poly("x31")), api.OK)
	for _, x := range []struct {
		p, q []api.Term
		want api.Errno
	}{
		{grid(0, 64, 1, 1), grid(1, 32, 2, 1), api.OK},
		{grid(0, 3, 1, 1), grid(1, 23, 2, 23), api.OK},
		{grid(0, 3, 1, 1), append(grid(1, 23, 2, 30), poly("x3")...)[:683], api.ErrTooBig},
		{grid(0, 64, 1, 1), grid(1, 33, 2, 1), api.ErrTooBig},
		{grid(0, 33, 1, 1), grid(1, 64, 2, 1), api.ErrTooBig},
		{full, poly("x31"), api.OK},
		{full, poly("x31 + 1"), api.ErrTooBig},
		{poly("x31 + 1"), full, api.ErrTooBig},
		// After the second term of p there are 3072 coefficients, of which the third one leaves 1584.
		{poly("1 + x3 - x1"), grid(1, 64, 2, 24), api.OK},
		// After the tenth term of p there are 10240 coefficients, of which 320 remain.
		{product(grid(3, 10, 4, 1), poly("1 - x1")), grid(1, 64, 2, 16), api.OK},
		{product(grid(3, 10, 4, 1), poly("1 + x1")), grid(1, 64, 2, 16), api.ErrTooBig},
		// There are more than 2048 coefficients while the second term of p is processed.
		{poly("1 - x1"), sum(grid(2, 20, 3, 10), product(poly("x0"), grid(1, 64, 2, 28)), 1), api.OK},
	} {
		check(t, "P8.3: Mul of "+short(x.p)+" and "+short(x.q), checkMul(t, x.p, x.q), x.want)
	}
}

// TestLimitsOfEval has values for which the order of the operations decides.
func TestLimitsOfEval(t *testing.T) {
	a, b, c := "1"+zeros(900), "1/1"+zeros(900), "1"+zeros(1232)
	for _, x := range []struct {
		p, at string
		want  api.Errno
	}{
		{"x0", c, api.OK}, {"8*x0", c, api.OK}, {"16*x0", c, api.ErrTooBig},
		{"x0*x1", a + " " + b, api.OK}, {"x0*x1", b + " " + a, api.OK},
		{"2^2000*x0*x1", a + " " + b, api.ErrTooBig}, {"2^2000*x0*x1", b + " " + a, api.OK},
		{"2^1000*x0*x1", a + " " + b, api.OK}, {"2^1000*x0*x1", b + " " + a, api.OK},
		{"x0^2*x1^2", a + " " + b, api.ErrTooBig}, {"x0*x1*x2*x3", a + " " + b + " " + a + " " + b, api.OK},
		{"x0*x1*x2*x3", a + " " + a + " " + b + " " + b, api.ErrTooBig},
		// The last term is added last: 1, 1, -1 and 1, -1, 1 times 2^4095.
		{"2^4095 + 2^4095*x0 - 2^4095*x0^2", "1", api.ErrTooBig}, {"2^4095 - 2^4095*x0 + 2^4095*x0^2", "1", api.OK}, {"-2^4095 + 2^4095*x0 + 2^4095*x0^2", "1", api.OK},
		{"2^4095*x0 + 2^4095*x0^2", "-1", api.OK}, {"2^4095*x0 - 2^4095*x0^2", "-1", api.ErrTooBig},
		// The products of rational.Add are too big, and its result is not.
		{"x0 + x1", b + " " + b, api.ErrTooBig}, {"x0", b, api.OK}, {"x0^2", b, api.ErrTooBig}, {"x0 + 2^2000", b, api.ErrTooBig},
		// A factor 0 comes after a product that is too big, or before it.
		{"x0^2*x1", a + " 0", api.ErrTooBig}, {"x0*x1^2", "0 " + a, api.OK}, {"x0^64*x1^64", "0 1/3", api.OK}, {"x0^64*x1^64*x2", "2 1/2 7", api.OK},
	} {
		check(t, "P8.6: Eval of "+x.p, checkEval(t, poly(x.p), numbers(x.at)), x.want)
	}
}

// zeros returns n digits.
func zeros(n int) string { return string(slices.Repeat([]byte("0"), n)) }

// TestLimitsOfDivisions has divisions of which one call decides.
func TestLimitsOfDivisions(t *testing.T) {
	for _, x := range []struct {
		p, q string
		want api.Errno
	}{
		{"2^4095*x0", "x0 + 1", api.OK}, {"2^4095*x0 - 2^4095", "x0 + 1", api.ErrTooBig}, {"2^4095*x0 + 2^4095", "x0 + 1", api.OK},
		{"2^4095*x0", "2*x0 + 1", api.ErrTooBig}, {"2^4094*x0", "2*x0 + 1", api.OK}, {"2^4094*x0 + 2^4095", "2*x0 + 1", api.ErrTooBig},
		{"x0^2 + 2^4095", "2^2*x0 + 1", api.ErrTooBig}, {"x0^2 + 2^4091", "2^2*x0 + 1", api.OK}, {"x0^3", "2^2000*x0 + 1", api.OK}, {"x0^4", "2^2000*x0 + 1", api.ErrTooBig}, {"x0^4", "2^2000*x0", api.OK},
		// The quotient is too big, and the remainder 0.
		{"x0^3 + x0^2", "2^2050*x0^2", api.ErrTooBig}, {"x0^3 + x0^2", "2^2000*x0^2", api.OK},
		{"x0^2*x1^64", "x0 + x1", api.ErrTooBig}, {"x0^2*x1^62", "x0 + x1", api.OK}, {"x0^2*x1^63", "x0 + x1", api.ErrTooBig},
		{"x0^2*x1^63", "x1*x0 + 1", api.OK}, {"x0^2*x1^64", "x1*x0 + 1", api.ErrTooBig},
	} {
		check(t, "P8.5: PseudoDiv of "+x.p+" by "+x.q, checkDiv(t, poly(x.p), poly(x.q), 0), x.want)
	}
	dense := grid(1, 32, 2, 32)
	p := product(dense, poly("x0"))
	q := sum(p, poly("1"), 1)
	check(t, "P8.5: PseudoDiv with 2048 terms", checkDiv(t, p, poly("x0 + 1"), 0), api.OK)
	check(t, "P8.5: PseudoDiv with more terms", checkDiv(t, p, poly("x0 + x1 + 1"), 0), api.ErrTooBig)
	check(t, "P8.5: PseudoDiv by many terms", checkDiv(t, poly("x0^2"), q, 0), api.OK)
	check(t, "P8.5: PseudoDiv by many terms", checkDiv(t, poly("x0^2 + x3*x0"), q, 0), api.ErrTooBig)
}

// TestOrderInDivisions has divisions for which the order of the factors decides, because it is that of the additions: C and T are coefficients of powers of x0.
func TestOrderInDivisions(t *testing.T) {
	cubic := "2^2048 + 2^2048*x1 + 2^2048*x1^3"
	inOrder, reversed := "2^2047 + 2^2047*x1^2 - 2^2047*x1^3", "-2^2047 + 2^2047*x1^2 + 2^2047*x1^3"
	for _, x := range []struct {
		what, c, t string
		want       api.Errno
	}{
		{"Mul of t and q: T x0 by x0 + C", inOrder, cubic, api.OK},
		{"Mul of t and q: T x0 by x0 + C", reversed, cubic, api.ErrTooBig},
		{"Mul of c and r: T x0 by C x0 + 1", cubic, reversed, api.ErrTooBig},
		{"Mul of c and a: T x0^3 by C x0 + 1", "2^1364 + 2^1365*x1 - 2^1364*x1^2", "2^1364 + 2^1364*x1 + 2^1366*x1^2", api.ErrTooBig},
		{"Mul of c and a: T x0^3 by C x0 + 1", "2^1364 - 2^1365*x1 - 2^1364*x1^2", "-2^1366 - 2^1364*x1 - 2^1364*x1^2", api.OK},
	} {
		p, q := product(poly(x.t), poly("x0")), product(poly(x.c), poly("x0"))
		q = sum(q, poly("1"), 1)
		if strings.Contains(x.what, "x0 + C") {
			q = sum(poly("x0"), poly(x.c), 1)
		}
		if strings.Contains(x.what, "x0^3") {
			p = product(p, poly("x0^2"))
		}
		check(t, "P8.5: "+x.what, checkDiv(t, p, q, 0), x.want)
	}
}

// TestLargestArguments has the greatest numbers of terms and variables, and the greatest exponents.
func TestLargestArguments(t *testing.T) {
	var first, last, all []api.Term
	for _, term := range many(api.MaxTerms + 1)[1:] {
		first = append(first, term)
		last = append(last, one(append(make([]int, 30), term.Exps...)...))
		exps := slices.Repeat([]int{api.MaxExponent}, api.MaxVars)
		copy(exps, []int{0, 0})
		copy(exps, term.Exps)
		all = append(all, one(exps...))
	}
	if p, e := multipoly.Mul(first, last); e != api.ErrTooBig || len(p) > 0 {
		t.Error("P8.3: Mul of 2048 terms and 2048 others has error", e)
	}
	checkText(t, all)
	checkPrimitive(t, all)
	checkAdd(t, all, all)
	checkSub(t, all, first)
	checkEvalMod(t, all, slices.Repeat([]int{12345, -54321}, api.MaxVars/2), api.MaxPrime)
	checkEval(t, all[:200], slices.Repeat(numbers("1 -1"), api.MaxVars/2))
}
