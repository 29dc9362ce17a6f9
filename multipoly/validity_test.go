package multipoly_test

import (
	"math"
	"slices"
	"strings"
	"testing"

	"straightedge/api"
	"straightedge/integer"
	"straightedge/multipoly"
)

// one returns a term with the coefficient 1.
func one(exps ...int) api.Term { return api.Term{Coef: integer.Of(1), Exps: exps} }

// many returns a polynomial of n terms, of which at most 65 have the same exponent of variable 0.
func many(n int) []api.Term {
	var p []api.Term
	for i := range n {
		exps := []int{i / 65, i % 65}
		for len(exps) > 0 && exps[len(exps)-1] == 0 {
			exps = exps[:len(exps)-1]
		}
		p = append(p, one(exps...))
	}
	return p
}

// invalidPolynomials returns lists that are no valid polynomials.
func invalidPolynomials() map[string][]api.Term {
	long := api.Int{Mag: make([]uint32, api.MaxLimbs+1)}
	long.Mag[api.MaxLimbs] = 1
	wide := make([]int, api.MaxVars+1)
	wide[api.MaxVars] = 1
	last := append(poly("x0 + 1"), one(1, 1), one(1, 1))
	return map[string][]api.Term{
		"no coefficient":            {{}},
		"a coefficient 0":           {{Exps: []int{1}}},
		"a coefficient -0":          {{Coef: api.Int{Neg: true}, Exps: []int{1}}},
		"a limb 0 at the end":       {{Coef: api.Int{Mag: []uint32{1, 0}}}},
		"a coefficient 0 of limbs":  {{Coef: api.Int{Mag: []uint32{0}}}},
		"too many limbs":            {{Coef: long}},
		"a last exponent 0":         {one(1, 0)},
		"a single exponent 0":       {one(0)},
		"too many exponents":        {one(wide...)},
		"too many exponents of 1":   {one(slices.Repeat([]int{1}, api.MaxVars+1)...)},
		"too great an exponent":     {one(65)},
		"too great a first one":     {one(65, 1)},
		"a negative exponent":       {one(-1)},
		"a negative first exponent": {one(-1, 2)},
		"an exponent like 0":        {one(256)},
		"the least exponent":        {one(math.MinInt)},
		"the greatest exponent":     {one(math.MaxInt, 3)},
		"equal constants":           {one(), one()},
		"equal monomials":           {one(2, 3), one(2, 3)},
		"equal monomials, last":     last,
		"descending monomials":      {one(1), one(0, 5)},
		"descending to a constant":  {one(0, 0, 1), one()},
		"descending in the second":  {one(1, 2), one(1, 1, 5)},
		"descending at the end":     {one(), one(1), one(1, 1), one(1, 0, 7)},
		"descending by its absence": {one(1, 1), one(1)},
		"too many terms":            many(api.MaxTerms + 1),
		"too many invalid terms":    make([]api.Term, api.MaxTerms+1),
		"an invalid last term":      append(many(api.MaxTerms-1), one(64, 64, 0)),
		"a last term that is equal": append(many(api.MaxTerms-1), many(api.MaxTerms - 1)[api.MaxTerms-2]),
	}
}

func TestInvalidPolynomials(t *testing.T) {
	for what, p := range invalidPolynomials() {
		for _, vars := range []int{0, 1, 2, api.MaxVars, api.MaxVars + 1, -1} {
			if e := multipoly.Check(p, vars); e != api.ErrArg {
				t.Error("P8.1: Check with", what, "in", vars, "variables: error", e)
			}
		}
		for name, e := range failures(p) {
			if e != api.ErrArg {
				t.Error(name, "with", what, "has error", e)
			}
		}
	}
	for name, e := range failures(poly("x0 + 1")) {
		if e != api.OK && !strings.Contains(name, "second") {
			t.Error(name, "with a valid polynomial has error", e)
		}
	}
}

// failures returns the errors of all functions that are passed a polynomial, -1 for a result beside an error. Other arguments have later errors.
func failures(p []api.Term) map[string]api.Errno {
	errors := map[string]api.Errno{}
	note := func(name string, e api.Errno, isZero bool) {
		errors[name] = e
		if e != api.OK && !isZero {
			errors[name] = -1
		}
	}
	q := poly("x0 - 1")
	binary := map[string]func(p, q []api.Term) ([]api.Term, api.Errno){"Add": multipoly.Add, "Sub": multipoly.Sub, "Mul": multipoly.Mul}
	for name, do := range binary {
		result, e := do(p, q)
		note(name+", first", e, len(result) == 0)
		result, e = do(q, p)
		note(name+", other", e, len(result) == 0)
	}
	n, e := multipoly.Degree(p, 0)
	note("Degree", e, n == 0)
	result, e := multipoly.Coeff(p, 0, 1)
	note("Coeff", e, len(result) == 0)
	a, r, k, e := multipoly.PseudoDiv(p, q, 0)
	note("PseudoDiv, first", e, len(a)+len(r)+k == 0)
	a, r, k, e = multipoly.PseudoDiv(q, p, 0)
	note("PseudoDiv, other", e, len(a)+len(r)+k == 0)
	v, e := multipoly.Eval(p, slices.Repeat(numbers("1"), api.MaxVars))
	note("Eval", e, equalRat(v, api.Rat{}))
	n, e = multipoly.EvalMod(p, make([]int, api.MaxVars), 3)
	note("EvalMod", e, n == 0)
	result, e = multipoly.Primitive(p)
	note("Primitive", e, len(result) == 0)
	s, e := multipoly.Text(p)
	note("Text", e, s == "")
	if multipoly.Check(p, api.MaxVars) != api.OK {
		a, r, k, e = multipoly.PseudoDiv(p, nil, 0)
		note("PseudoDiv by 0", e, len(a)+len(r)+k == 0)
		n, e = multipoly.EvalMod(p, make([]int, api.MaxVars), 4)
		note("EvalMod without a prime", e, n == 0)
	}
	return errors
}

func TestCheck(t *testing.T) {
	all := slices.Repeat([]int{api.MaxExponent}, api.MaxVars)
	for _, x := range []struct {
		p    []api.Term
		vars int // the least number
	}{
		{nil, 0}, {[]api.Term{}, 0}, {multipoly.Const(5), 0}, {[]api.Term{{Coef: most()}}, 0}, {[]api.Term{{Coef: integer.Of(1), Exps: []int{}}}, 0},
		{poly("x0"), 1}, {poly("x1"), 2}, {poly("x0^64 + x5 + 1"), 6}, {[]api.Term{one(all...)}, api.MaxVars}, {poly("x31 + 1"), api.MaxVars},
		{many(api.MaxTerms), 2}, {[]api.Term{one(), one(0, 0, 1), one(0, 1), one(0, 1, 1), one(0, 64), one(1), one(1, 0, 64), one(1, 1)}, 3},
	} {
		for vars := -1; vars <= api.MaxVars+2; vars++ {
			want := api.ErrArg
			if vars >= x.vars && vars <= api.MaxVars {
				want = api.OK
			}
			if e := multipoly.Check(x.p, vars); e != want {
				t.Error("P8.1: Check of", short(x.p), "in", vars, "variables: error", e, "and not", want)
			}
		}
		for _, vars := range []int{math.MinInt, math.MaxInt} {
			if e := multipoly.Check(x.p, vars); e != api.ErrArg {
				t.Error("P8.1: Check in", vars, "variables: error", e)
			}
		}
	}
}

// TestInvalidVariables checks the errors of the other arguments, and which of several comes first.
func TestInvalidVariables(t *testing.T) {
	p := poly("x0^2 + x31")
	for _, v := range []int{-1, api.MaxVars, api.MaxVars + 1, math.MinInt, math.MaxInt} {
		n, e := multipoly.Degree(p, v)
		c, f := multipoly.Coeff(p, v, 1)
		if n != 0 || len(c) > 0 || e != api.ErrArg || f != api.ErrArg {
			t.Error("P8.4: in the variable", v, ":", n, short(c), "errors", e, f)
		}
		if n, e := multipoly.Degree(nil, v); n != 0 || e != api.ErrArg {
			t.Error("P8.4: Degree of 0 in the variable", v, "is", n, "error", e)
		}
		for _, q := range [][]api.Term{p, nil, multipoly.Const(2)} {
			if a, r, k, e := multipoly.PseudoDiv(p, q, v); len(a)+len(r)+k > 0 || e != api.ErrArg {
				t.Error("P8.5: in the variable", v, "error", e)
			}
		}
	}
	for _, n := range []int{-1, -2, math.MinInt} {
		for _, q := range [][]api.Term{p, nil} {
			if c, e := multipoly.Coeff(q, 0, n); len(c) > 0 || e != api.ErrArg {
				t.Error("P8.4: the power", n, "error", e)
			}
		}
	}
	for _, x := range []struct {
		q    string
		v    int
		want api.Errno
	}{{"0", 0, api.ErrZero}, {"0", 31, api.ErrZero}, {"1", 0, api.ErrArg}, {"x1", 0, api.ErrArg}, {"x1", 1, api.OK}, {"x0 + x1", 2, api.ErrArg}, {"x0 + x1", 31, api.ErrArg}} {
		for _, p := range [][]api.Term{p, nil, multipoly.Const(1)} {
			a, r, k, e := multipoly.PseudoDiv(p, poly(x.q), x.v)
			if e != x.want || e != api.OK && len(a)+len(r)+k > 0 {
				t.Error("P8.5: PseudoDiv of", short(p), "by", x.q, "in", x.v, "has error", e, "and not", x.want)
			}
		}
	}
}

// TestInvalidPlaces has numbers that are not valid, or too few.
func TestInvalidPlaces(t *testing.T) {
	one, two := integer.Of(1), integer.Of(2)
	for _, r := range []api.Rat{{}, {Num: one}, {Num: two, Den: two}, {Den: two}, {Num: one, Den: integer.Of(-2)}, {Num: api.Int{Neg: true}, Den: one}, {Num: api.Int{Mag: []uint32{1, 0}}, Den: one}} {
		for _, p := range [][]api.Term{nil, multipoly.Const(3), poly("x0"), poly("x1 + x0")} {
			for _, at := range [][]api.Rat{{r, numbers("1")[0]}, {numbers("1")[0], r}, {numbers("1")[0], numbers("2")[0], r}} {
				if v, e := multipoly.Eval(p, at); e != api.ErrArg || !equalRat(v, api.Rat{}) {
					t.Error("P8.6: Eval of", short(p), "at an invalid number is", numberText(v), "error", e)
				}
			}
		}
	}
	for _, x := range []struct {
		p           string
		vars, prime int
		want        api.Errno
	}{{"x2", 2, 5, api.ErrArg}, {"x2", 2, 4, api.ErrArg}, {"x2", 3, 4, api.ErrPrime}, {"x2", 3, 2, api.ErrPrime}, {"x2", 3, 5, api.OK}, {"0", api.MaxVars + 1, 4, api.ErrArg}, {"0", api.MaxVars, 4, api.ErrPrime}} {
		if n, e := multipoly.EvalMod(poly(x.p), make([]int, x.vars), x.prime); e != x.want || n != 0 {
			t.Error("P8.7: EvalMod of", x.p, "in", x.vars, "variables modulo", x.prime, "is", n, "error", e, "and not", x.want)
		}
	}
}
